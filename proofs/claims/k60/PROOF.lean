import PyProof.Rows.All
import Wide.All
import OpenK.AllK
import Wide.FinOn
import Lean
import PyProof.EqAt
import PyProof.EqKinds
import PyProof.TupleCall
import PySem.Challenge.RW_websbykind_k60_counts_known
set_option Elab.async false
set_option linter.all false
set_option compiler.extract_closed false
set_option bootstrap.genMatcherCode false
set_option genSizeOf false
set_option maxHeartbeats 4000000
set_option maxRecDepth 100000
set_option autoImplicit true
open PySem PySem.Spec PyProof.Rows
open PySem.W (Frag)
noncomputable section
local macro_rules | `(⋯)=>`(by first |decide |lia |simp)
local macro_rules | `($x⁻¹)=>`(($x).heap.objs.size)
abbrev aS:=@PySem.wpAny_bind
abbrev bP:=@PySem.Heap.get?_push_of_some
abbrev b0:=@List.mem_cons_of_mem
abbrev dA:=@List.mem_cons_self
abbrev dC:=@List.size_toArray
abbrev dE:=@List.getElem?_eq_some_iff
abbrev dL:=@PySem.wpAny_pure
abbrev dS:=@List.getElem?_append_left
abbrev d0:=@List.mem_cons
abbrev d5:=@Nat.le_refl
abbrev d6:=@List.getElem?_append_right
abbrev eA:=@Nat.lt_of_lt_of_le
abbrev eC:=@List.getElem?_set_ne
abbrev eD:=@PySem.Heap.get?_push_size
abbrev eJ:=@PySem.Heap.lt_size
abbrev eM:=@Option.bind_eq_some_iff
abbrev eP:=@Bool.and_eq_true
abbrev eQ:=@List.getElem?_set_self
abbrev eR:=@List.length_map
abbrev fA:=@List.nodup_cons
abbrev fI:=@List.length_replicate
abbrev fN:=@if_pos
abbrev fR:=@if_neg
abbrev gL:=@List.length_append
abbrev gN:=@List.mem_singleton
abbrev hU:=@decide_eq_true_eq
abbrev hV:=@List.mem_filter
abbrev i3:=@List.mem_map
abbrev i4:=@List.length_set
abbrev i5:=@Nat.ne_of_lt
abbrev i6:=@Nat.add_sub_cancel_left
abbrev i7:=@Bool.false_ne_true
abbrev i8:=@List.mem_of_getElem?
abbrev i9:=@PySem.Heap.get?_update_other
abbrev kA:=@of_decide_eq_true
abbrev kS:=@List.length_cons
abbrev lL:=@List.mem_append_right
abbrev lS:=@PySem.wpAny_mono
abbrev l4:=@List.append_nil
abbrev l5:=@PySem.sizeLine_eq
abbrev l6:=@Nat.le_trans
abbrev l7:=@PySem.wpAny_newObj_type
abbrev l8:=@PySem.wpAny_field
abbrev l9:=@List.replicate_succ
abbrev mB:=@PySem.wpAny_holding
abbrev mE:=@List.not_mem_nil
abbrev mI:=@List.filterMap_cons
abbrev mM:=@Array.length_toList
abbrev mP:=@List.all_eq_true
abbrev nE:=@PySem.wpAny_truthy_bool
abbrev nK:=@PyProof.Rows.slot_tuple_getitem
abbrev nN:=@Ne.symm
abbrev nS:=@List.pairwise_cons
abbrev nV:=@decide_eq_false
abbrev n0:=@Option.some.inj
abbrev oC:=@PyProof.Rows.callWith_type1
abbrev oD:=@List.lookup_cons
abbrev oI:=@List.nodup_nil
abbrev oP:=@List.getElem?_map
abbrev oQ:=@PySem.wpAny_callSpecial?_slot
abbrev oS:=@PySem.wpAny_Call_Name_kw
abbrev o0:=@List.mem_append
abbrev o6:=@Nat.lt_irrefl
abbrev pE:=@List.mem_map_of_mem
abbrev pV:=@List.getElem?_eq_getElem
abbrev qS:=@List.set_append_right
abbrev rV:=@PySem.wpAny_call_entry
abbrev sB:=@Nat.le_add_right
abbrev sK:=@List.flatten_cons
abbrev sR:=@List.map_congr_left
abbrev sT:=@List.length_reverse
abbrev tJ:=@Int.toNat_natCast
abbrev tP:=@List.mem_range
abbrev tS:=@List.getElem?_eq_none_iff
abbrev t0:=@PySem.Heap.get?_update_self
abbrev t5:=@PySem.W.kia_one
abbrev t6:=@List.map_append
abbrev t7:=@List.mem_replicate
abbrev t8:=@PySem.Obj.data_mapFields
abbrev t9:=@List.length_take
abbrev u4:=@Nat.lt_succ_self
abbrev u7:=@PySem.F.plainAttrs_list
abbrev u8:=@decide_eq_true
abbrev vS:=@List.nodup_append
abbrev v6:=@List.nil_append
abbrev wE:=@Nat.zero_le
abbrev wP:=@Array.getD_eq_getD_getElem?
abbrev wS:=@Bool.or_eq_true
abbrev wT:=@Array.getElem?_eq_some_iff
abbrev w8:=@List.getD_eq_getElem?_getD
abbrev w9:=@PySem.F.slot_tuple_iterator_next
abbrev xI:=@Nat.lt_or_ge
abbrev xL:=@PySem.Obj.isFreed_of_fields
abbrev x0:=@PySem.wpAny_setField_rec
abbrev x5:=@List.Perm.refl
abbrev yA:=@PySem.wpAny_seqItems
abbrev yB:=@PySem.wpAny_passesOwn
abbrev yY:=@List.getElem?_take_of_lt
abbrev y0:=@PySem.AutoSeq1.wpAny_loadPart'
abbrev y6:=@Nat.ne_of_gt
abbrev y7:=@PySem.mem_of_lookup
abbrev y8:=@List.getElem?_replicate
abbrev An:=@PySem.Heap.size_push
abbrev Ap:=@if_true
abbrev At:=@Nat.lt_of_succ_lt_succ
abbrev AA:=@PySem.W.callWith_K
abbrev AB:=@Bool.false_eq_true
abbrev AC:=@Nat.le_succ
abbrev AD:=@List.length_singleton
abbrev AE:=@List.getElem?_eq_none
abbrev AF:=@List.contains_iff_mem
abbrev AG:=@List.map_set
abbrev AH:=@List.append_assoc
abbrev AI:=@or_false
abbrev AJ:=@Array.perm_iff_toList_perm
abbrev AK:=@List.nodup_iff_pairwise_ne
abbrev AL:=@List.mem_append_left
abbrev AM:=@List.set_append_left
abbrev AO:=@PySem.wpAny_setField
abbrev AQ:=@PySem.wpAny_execs_cons
abbrev AR:=@PySem.F.args_tuple_add_2
abbrev AS:=@PySem.F.slot_list_append
abbrev AT:=@PySem.F.type_list_append
abbrev AU:=@Nat.zero_add
abbrev AV:=@List.zip_cons_cons
abbrev AW:=@List.length_nil
abbrev AX:=@PySem.F.entry_tuple_add
abbrev AY:=@Option.map_some
abbrev AZ:=@Nat.not_lt_zero
abbrev A4:=@PySem.wpAny_newList
abbrev A6:=@Array.Perm.refl
abbrev A7:=@List.cons.injEq
abbrev A8:=@Int.emod_lt_of_pos
abbrev A9:=@PySem.W.cellsFrom_some
abbrev Bi:=@PySem.F.slot_tuple_add
abbrev Bz:=@Nat.le_of_succ_le_succ
abbrev BA:=@List.reverse_cons
abbrev BB:=@PySem.call_meets
abbrev BC:=@List.Sublist.refl
abbrev BD:=@PySem.W.kitx_list
abbrev BE:=@Bool.not_eq_true'
abbrev BF:=@List.length_range
abbrev BH:=@PySem.codeAny_mono
abbrev BI:=@Nat.succ.inj
abbrev BM:=@Nat.sub_self
abbrev BN:=@List.pairwise_reverse
abbrev BO:=@beq_self_eq_true
abbrev BQ:=@PySem.Heap.size_update
abbrev BS:=@Nat.not_succ_le_zero
abbrev BU:=@List.range_eq_range'
abbrev B0:=@PySem.wpAny_standAt
abbrev B2:=@PySem.wpAny_onRaise
abbrev B3:=@PySem.W.mg_of
abbrev B4:=@beq_eq_false_iff_ne
abbrev B6:=@List.of_mem_zip
abbrev B9:=@List.getElem?_range
abbrev Cf:=@Int.emod_nonneg
abbrev Cn:=@Nat.le_of_lt
abbrev Co:=@PySem.wpAny_typeOf
abbrev Cs:=@List.all_map
abbrev CA:=@Bool.false_and
abbrev CC:=@PySem.wpAny_Name
abbrev CD:=@PySem.wpAny_call
abbrev CF:=@if_false
theorem nt{p:Prop}(h:false=true):p:=Bool.noConfusion h
namespace L2
def iD(s:Stmt):Arguments:=match s with
 |.FunctionDef _ a _ _ _ _ _ _ _ _=>a
 |_=>{ posonlyargs:=[],args:=[],vararg:=none,kwonlyargs:=[],kw_defaults:=[],kwarg:=none,defaults:=[]}
def bA(s:Stmt):List Stmt:=match s with
 |.FunctionDef _ _ b _ _ _ _ _ _ _=>b
 |_=>[]
def aD(s:Stmt):Scope:=match s with
 |.FunctionDef _ _ _ _ _ _ sc _ _ _=>sc
 |_=>{ kind:=.function,names:=[],isGenerator:=false,isCoroutine:=false}
end L2
namespace Ev
open L2
noncomputable def pQ(q:Addr)(K:Params->Frag)(P:Params):Frag:=(q,{ cls:=.none,data:=.fields #[]})::K P
section
open PySem.W
noncomputable def HN(tb:String->Option Builtin)(p:Program)(w:World)(n₀:Nat)(ann:Option Value):Nat->SharedT->Thread->Option SharedT
 | 0,_,_=>none
 |n+1,s,t=>match through t with
  |true=>some s
  |false=>match stepOk n₀ ann t with
   |false=>none
   |true=>match stepT (denote tb) p w s t with
    |some (s',t')=>HN tb p w n₀ ann n s' t'
    |none=>none
theorem xx{tb:String->Option Builtin}{p:Program}{w:World}{n₀:Nat}{ann:Option Value}:∀{n:Nat}{s s':SharedT}{t:Thread},HN tb p w n₀ ann n s t=some s'->topRun tb p w n₀ ann n s.abs t=some s'.abs
 | 0,_,_,_,h=>by cases h
 |n+1,s,s',t,h=>by
  unfold HN at h;unfold topRun;cases he:through t with
  |true=>rw[he]at h;cases h;rfl
  |false=>
   rw[he]at h;cases hk:stepOk n₀ ann t with
   |false=>rw[hk]at h;cases h
   |true=>
    rw[hk]at h;cases hs:stepT (denote tb) p w s t with
    |none=>rw[hs]at h;cases h
    |some r=>obtain⟨s₂,t₂⟩:=r;rw[hs]at h;rw[stepT_spec hs];exact xx h
noncomputable def L8:BT->Nat->List Obj->BT
 |t,_,[]=>t
 |t,n,o::os=>L8 (t.ins n o) (n+1) os
noncomputable def Bs(P:Params):BT:=L8 .nil 0 (boot_heap P).objs.toList
theorem Bt(P:Params):absHeap (Bs P) 11 (boot_heap P).life=boot_heap P:=by kernel_rfl
noncomputable abbrev AN (P:Params):Option Value:=(boot_heap P).nsMap mainGlobals "__annotations__"
theorem yV{p q:Program}{loose:List Str}{Xt:Shared->Bool}{α:Type}{Yf:Shared->α}{Ya:World->α}{N:Nat}{ann:Option Value}
  (e:opening p=plainProg p.main.scope.names) (hN:Nat.ble 600 N=true) (f:∀s,fenceModules? p s=some s) (ha:∀P,AN P=ann)
  (run:∀(w:World) (os:OsState),(HN treeTable p w 11 ann N ⟨Bs w.params,11,(boot_heap w.params).life,#[],boot_drawn,boot_toks,os⟩ (topStub p)).map (λs=>
   (staticsOk (importedModules p.main.body) (boot_heap w.params) s.abs.heap&&namesBound p s.abs.heap&&gensDone s.abs&&laidKept (boot_heap w.params) s.abs.heap,openSeen q loose (importedModules p.main.body) Xt true s.abs,Yf s.abs))=some (true,openGood q loose,Ya w)):LeftO p q loose Xt Yf Ya N:=λw=>by
 obtain⟨⟨h,gs,d,k,os⟩,e1,e2⟩:=Option.map_eq_some_iff.mp (boot_open e hN f w);obtain⟨rfl,rfl,rfl,rfl⟩:h=boot_heap w.params/\gs=Array.mk []/\d=boot_drawn/\k=boot_toks:=by simpa using e2
 obtain⟨s,r1,r2⟩:=Option.map_eq_some_iff.mp (run w os);obtain⟨l1,l2,l3⟩:_/\_/\_:=by simpa only[Prod.mk.injEq]using r2
 have r:=xx r1;unfold openEnds;rw[e1];show (topFrom treeTable p w N _).map _=_;have z0:((boot_heap w.params).isNs mainGlobals&&(Array.mk []:Array GenState).size==0)=true:=by kernel_rfl
 have t:topFrom treeTable p w N ⟨boot_heap w.params,Array.mk [],boot_drawn,boot_toks,os⟩=some s.abs:=by
  unfold topFrom;dsimp only;rw[z0];have r':topRun treeTable p w (boot_heap w.params).objs.size ((boot_heap w.params).nsMap mainGlobals "__annotations__") N ⟨boot_heap w.params,Array.mk [],boot_drawn,boot_toks,os⟩ (topStub p)=some s.abs:=by
   have:=ha w.params;unfold AN at this;rw[this];have z:SharedT.abs ⟨Bs w.params,11,(boot_heap w.params).life,#[],boot_drawn,boot_toks,os⟩=⟨boot_heap w.params,Array.mk [],boot_drawn,boot_toks,os⟩:=by unfold SharedT.abs;dsimp only;rw[Bt]
   rw[z]at r;exact r
  rw[r'];show (match staticsOk (importedModules p.main.body) (boot_heap w.params) s.abs.heap&&namesBound p s.abs.heap&&gensDone s.abs&&laidKept (boot_heap w.params) s.abs.heap with |true=>_ |false=>_)=_
  rw[l1]
 rw[t];exact congrArg some (Prod.ext l2 l3)
theorem Us(P:Params):AN P=some (.ref 6):=by kernel_rfl
end
end Ev
namespace bF
open L2 Ev
def st(j:Nat):Stmt:=PySem.Challenge.pw_websbykind_k60_counts_known.main.body.getD j (.Pass ⟨0,0,0,0⟩)
noncomputable def de(P:Params)(s:Str)(t:Tok)(v:Value):DictEntry:=⟨PyData.keyHash P s,.str s t,v⟩
noncomputable def co(vs:Array Value):Obj:=⟨.type "code",none,.fields vs,#[]⟩
noncomputable def fo(j:Nat)(n:Str)(kV doc pm:Value)(an:Option Addr)(bE ct:Value):Obj:=⟨.type "function",none,.func (PySem.W.fnOf n n (iD (st j)) (bA (st j)) (aD (st j)) .none kV doc pm an bE ct),#[]⟩
noncomputable def ce(n:Str)(b a s r t u:Nat):Obj:=⟨.type "type",none,.cls ⟨n,[.ref b],[.ref a,.ref b,.type "ValueError",.type "Exception",.type "BaseException",.type "object"],s,n,true,[],[],false,none,false⟩,#[some (.ref r),none,some (.str n t),some (.str n u),some (.builtin "ValueError.__new__"),some (.bool true)]⟩
def cd(n:Str)(t l p r:Nat)(x y z:Value)(u:Nat):Obj:=co #[.str n t,.str n (t+1),.str "/claim/cut.py" (t+2),.int l 0,.int p 0,.int 0 0,.int 0 0,.int 3 0,.ref r,.bool true,.int 181 0,.ref (r+1),.none,x,y,z,.int u 0,.int l 0,.str "/claim/cut.py" (u+1)]
def fq(j:Nat)(n:Str)(m:Value)(c:Addr):Obj:=fo j n .none .none m none (.ref c) .none
def m0:Value:=.str "websbykind.whole" 458
def m1:Value:=.str "websbykind.kinds" 476
def m2:Value:=.str "websbykind.webs" 484
def m3:Value:=.str "websbykind.counts" 519
def m4:Value:=.str "law_websbykind_k60_counts_known" 535
def K(P:Params):Frag:=
 (nat_lit 3,⟨.type "dict",none,.dict #[de P "__name__" 165 (.str "law_websbykind_k60_counts_known" 535),de P "__doc__" 166 (.none),de P "__package__" 167 (.none),de P "__loader__" 168 (.builtin "__main__.__loader__#opaque"),de P "__spec__" 169 (.none),de P "__annotations__" 170 (.ref 6),de P "__builtins__" 171 (.ref 4),de P "__file__" 173 (.str "/claim/cut.py" 172),de P "__cached__" 174 (.none),de P "KindError" 206 (.ref 24),de P "NoWeb" 222 (.ref 37),de P "NoNumber" 238 (.ref 49),de P "NoTurn" 254 (.ref 61),de P "NoKind" 270 (.ref 73),de P "NoPlace" 286 (.ref 85),de P "NoTie" 302 (.ref 97),de P "NoNumbers" 318 (.ref 109),de P "NoTree" 334 (.ref 121),de P "NoCode" 350 (.ref 133),de P "NoCounts" 366 (.ref 145),de P "NoMarks" 382 (.ref 157),de P "NoText" 398 (.ref 169),de P "NoLine" 414 (.ref 181),de P "NoDeed" 430 (.ref 193),de P "TooGreat" 457 (.ref 212),de P "is_whole" 466 (.ref 221),de P "is_within" 475 (.ref 228),de P "is_falling" 483 (.ref 233),de P "MOST_PLACES" 487 (.int 6 486),de P "is_web" 493 (.ref 238),de P "is_tie" 499 (.ref 243),de P "is_rising" 505 (.ref 248),de P "must_be_web" 512 (.ref 255),de P "tied_places" 518 (.ref 260),de P "MOST_COUNTS" 522 (.int 12 521),de P "is_counts" 528 (.ref 265),de P "counts_of" 534 (.ref 270),de P "_law_cell_at" 544 (.ref 277),de P "_law_state" 553 (.ref 284),de P "_law_take" 563 (.ref 291),de P "_law_counts" 569 (.ref 296),de P "_law_bent_counts" 580 (.ref 303),de P "_law_same" 586 (.ref 308),de P "_law_whole" 593 (.ref 315),de P "_law_is_counts" 599 (.ref 320),de P "_law_named" 610 (.ref 327),de P "_law_mixed" 620 (.ref 334),de P "_law_tree" 631 (.ref 341),de P "_law_web" 637 (.ref 346),de P "_law_bad_web" 645 (.ref 353),de P "_law_near" 651 (.ref 358),de P "_law_degrees" 657 (.ref 363),de P "_law_refused" 663 (.ref 368),de P "law" 669 (.ref 373)] 54,#[]⟩) ::
 (nat_lit 4,⟨.type "module",(some 0),.plain,#[]⟩) ::
 (nat_lit 24,⟨.type "type",none,.cls ⟨"KindError",[.type "ValueError"],[.ref 24,.type "ValueError",.type "Exception",.type "BaseException",.type "object"],23, "KindError",true,[],[.ref 37,.ref 49,.ref 61,.ref 73,.ref 85,.ref 97,.ref 109,.ref 121,.ref 133,.ref 145,.ref 157,.ref 169,.ref 181,.ref 193,.ref 212],false,none,false⟩,#[some (.ref 15),none,some (.str "KindError" 189),some (.str "KindError" 197),some (.builtin "ValueError.__new__"),some (.bool true)]⟩) ::
 (nat_lit 23,⟨.type "dict",none,.dict #[de P "__module__" 196 (.str "websbykind.errors" 187),de P "__firstlineno__" 200 (.int 2 199),de P "__static_attributes__" 201 (.ref 22),de P "__weakref__" 203 (.ref 25),de P "__doc__" 204 (.none)] 3,#[]⟩) ::
 (nat_lit 37,ce "NoWeb" 24 37 36 28 207 215) ::
 (nat_lit 36,⟨.type "dict",none,.dict #[de P "__module__" 214 (.str "websbykind.errors" 187),de P "__firstlineno__" 218 (.int 4 217),de P "__static_attributes__" 219 (.ref 35),de P "__doc__" 220 (.none)] 2,#[]⟩) ::
 (nat_lit 49,ce "NoNumber" 24 49 48 40 223 231) ::
 (nat_lit 61,ce "NoTurn" 24 61 60 52 239 247) ::
 (nat_lit 73,ce "NoKind" 24 73 72 64 255 263) ::
 (nat_lit 85,ce "NoPlace" 24 85 84 76 271 279) ::
 (nat_lit 97,ce "NoTie" 24 97 96 88 287 295) ::
 (nat_lit 109,ce "NoNumbers" 24 109 108 100 303 311) ::
 (nat_lit 121,ce "NoTree" 24 121 120 112 319 327) ::
 (nat_lit 133,ce "NoCode" 24 133 132 124 335 343) ::
 (nat_lit 145,ce "NoCounts" 24 145 144 136 351 359) ::
 (nat_lit 157,ce "NoMarks" 24 157 156 148 367 375) ::
 (nat_lit 169,ce "NoText" 24 169 168 160 383 391) ::
 (nat_lit 181,ce "NoLine" 24 181 180 172 399 407) ::
 (nat_lit 193,ce "NoDeed" 24 193 192 184 415 423) ::
 (nat_lit 212,ce "TooGreat" 24 212 211 196 431 439) ::
 (nat_lit 220,cd "is_whole" 460 38 1 215 (.ref 217) (.ref 218) (.ref 219) 464) ::
 (nat_lit 221,fq 18 "is_whole" m0 220) ::
 (nat_lit 227,cd "is_within" 467 40 3 222 (.ref 224) (.ref 225) (.ref 226) 473) ::
 (nat_lit 228,fq 19 "is_within" m0 227) ::
 (nat_lit 232,cd "is_falling" 478 43 1 229 .none .none (.ref 231) 481) ::
 (nat_lit 233,fq 21 "is_falling" m1 232) ::
 (nat_lit 237,cd "is_web" 488 47 1 234 .none .none (.ref 236) 491) ::
 (nat_lit 238,fq 24 "is_web" m2 237) ::
 (nat_lit 242,cd "is_tie" 494 54 2 239 .none .none (.ref 241) 497) ::
 (nat_lit 243,fq 25 "is_tie" m2 242) ::
 (nat_lit 247,cd "is_rising" 500 58 1 244 .none .none (.ref 246) 503) ::
 (nat_lit 248,fq 26 "is_rising" m2 247) ::
 (nat_lit 254,cd "must_be_web" 506 60 1 249 (.ref 251) (.ref 252) (.ref 253) 510) ::
 (nat_lit 255,fq 27 "must_be_web" m2 254) ::
 (nat_lit 259,cd "tied_places" 513 63 2 256 .none .none (.ref 258) 516) ::
 (nat_lit 260,fq 28 "tied_places" m2 259) ::
 (nat_lit 264,cd "is_counts" 523 71 1 261 .none .none (.ref 263) 526) ::
 (nat_lit 265,fq 31 "is_counts" m3 264) ::
 (nat_lit 269,cd "counts_of" 529 75 1 266 .none .none (.ref 268) 532) ::
 (nat_lit 270,fq 32 "counts_of" m3 269) ::
 (nat_lit 276,cd "_law_cell_at" 537 80 2 271 (.ref 273) (.ref 274) (.ref 275) 542) ::
 (nat_lit 277,fq 34 "_law_cell_at" m4 276) ::
 (nat_lit 283,cd "_law_state" 545 84 2 278 (.ref 280) (.ref 281) (.ref 282) 551) ::
 (nat_lit 284,fq 35 "_law_state" m4 283) ::
 (nat_lit 290,cd "_law_take" 554 89 2 285 (.ref 287) (.ref 288) (.ref 289) 561) ::
 (nat_lit 291,fq 36 "_law_take" m4 290) ::
 (nat_lit 295,cd "_law_counts" 564 98 2 292 .none .none (.ref 294) 567) ::
 (nat_lit 296,fq 37 "_law_counts" m4 295) ::
 (nat_lit 302,cd "_law_bent_counts" 570 119 2 297 (.ref 299) (.ref 300) (.ref 301) 578) ::
 (nat_lit 303,fq 38 "_law_bent_counts" m4 302) ::
 (nat_lit 307,cd "_law_same" 581 125 2 304 .none .none (.ref 306) 584) ::
 (nat_lit 308,fq 39 "_law_same" m4 307) ::
 (nat_lit 314,cd "_law_whole" 587 133 1 309 (.ref 311) (.ref 312) (.ref 313) 591) ::
 (nat_lit 315,fq 40 "_law_whole" m4 314) ::
 (nat_lit 319,cd "_law_is_counts" 594 135 1 316 .none .none (.ref 318) 597) ::
 (nat_lit 320,fq 41 "_law_is_counts" m4 319) ::
 (nat_lit 326,cd "_law_named" 600 141 2 321 (.ref 323) (.ref 324) (.ref 325) 608) ::
 (nat_lit 327,fq 42 "_law_named" m4 326) ::
 (nat_lit 333,cd "_law_mixed" 611 146 2 328 (.ref 330) (.ref 331) (.ref 332) 618) ::
 (nat_lit 334,fq 43 "_law_mixed" m4 333) ::
 (nat_lit 340,cd "_law_tree" 621 152 2 335 (.ref 337) (.ref 338) (.ref 339) 629) ::
 (nat_lit 341,fq 44 "_law_tree" m4 340) ::
 (nat_lit 345,cd "_law_web" 632 158 1 342 .none .none (.ref 344) 635) ::
 (nat_lit 346,fq 45 "_law_web" m4 345) ::
 (nat_lit 352,cd "_law_bad_web" 638 179 1 347 (.ref 349) (.ref 350) (.ref 351) 643) ::
 (nat_lit 353,fq 46 "_law_bad_web" m4 352) ::
 (nat_lit 357,cd "_law_near" 646 184 2 354 .none .none (.ref 356) 649) ::
 (nat_lit 358,fq 47 "_law_near" m4 357) ::
 (nat_lit 362,cd "_law_degrees" 652 186 1 359 .none .none (.ref 361) 655) ::
 (nat_lit 363,fq 48 "_law_degrees" m4 362) ::
 (nat_lit 367,cd "_law_refused" 658 188 1 364 .none .none (.ref 366) 661) ::
 (nat_lit 368,fq 49 "_law_refused" m4 367) ::
 (nat_lit 372,cd "law" 664 202 1 369 .none .none (.ref 371) 667) ::
 (nat_lit 373,fq 50 "law" m4 372)::[]
noncomputable def as:List Addr:=nat_lit 3::nat_lit 4::nat_lit 24::nat_lit 23::nat_lit 37::nat_lit 36::nat_lit 49::nat_lit 61::nat_lit 73::nat_lit 85::nat_lit 97::nat_lit 109::nat_lit 121::nat_lit 133::nat_lit 145::nat_lit 157::nat_lit 169::nat_lit 181::nat_lit 193::nat_lit 212::nat_lit 220::nat_lit 221::nat_lit 227::nat_lit 228::nat_lit 232::nat_lit 233::nat_lit 237::nat_lit 238::nat_lit 242::nat_lit 243::nat_lit 247::nat_lit 248::nat_lit 254::nat_lit 255::nat_lit 259::nat_lit 260::nat_lit 264::nat_lit 265::nat_lit 269::nat_lit 270::nat_lit 276::nat_lit 277::nat_lit 283::nat_lit 284::nat_lit 290::nat_lit 291::nat_lit 295::nat_lit 296::nat_lit 302::nat_lit 303::nat_lit 307::nat_lit 308::nat_lit 314::nat_lit 315::nat_lit 319::nat_lit 320::nat_lit 326::nat_lit 327::nat_lit 333::nat_lit 334::nat_lit 340::nat_lit 341::nat_lit 345::nat_lit 346::nat_lit 352::nat_lit 353::nat_lit 357::nat_lit 358::nat_lit 362::nat_lit 363::nat_lit 367::nat_lit 368::nat_lit 372::nat_lit 373::[]
def as2:List Addr:=nat_lit 370::as
noncomputable def qv:Program:={ PySem.Challenge.pw_websbykind_k60_counts_known with main:={ PySem.Challenge.pw_websbykind_k60_counts_known.main with body:=[st 1,st 2,st 3,st 4,st 5,st 6,st 7,st 8,st 9,st 10,st 11,st 12,st 13,st 14,st 15,st 16,st 18,st 19,st 21,st 23,st 24,st 25,st 26,st 27,st 28,st 30,st 31,st 32,st 34,st 35,st 36,st 37,st 38,st 39,st 40,st 41,st 42,st 43,st 44,st 45,st 46,st 47,st 48,st 49,st 50]}}
theorem Ut(P:Params):as2=(pQ 370 K P).map (·.1):=by kernel_rfl
theorem op:PySem.W.opening PySem.Challenge.rw_websbykind_k60_counts_known.row.prog=PySem.W.plainProg PySem.Challenge.rw_websbykind_k60_counts_known.row.prog.main.scope.names:=by kernel_rfl
theorem fe:∀s,PySem.fenceModules? PySem.Challenge.rw_websbykind_k60_counts_known.row.prog s=some s:=λs=>by kernel_rfl
theorem hl:PySem.W.LeftO PySem.Challenge.rw_websbykind_k60_counts_known.row.prog qv [] (λs=>PySem.W.xlAt qv [] s&&PySem.W.recOk (PySem.W.OpenRow.toRowW PySem.Challenge.rw_websbykind_k60_counts_known.row).records s) (λs=>as2.map s.heap.get?) (λw=>(pQ 370 K w.params).map λp:Nat×Obj=>some p.2) 8000:=yV op ⋯ fe Us λw os=>by kernel_rfl
end bF
namespace Ev
open PySem PySem.W
end Ev
namespace L2
abbrev Key:=Sum Int Str
noncomputable def Ma:Key->Value->Bool
 |.inl k,v=>Value.isInt k v
 |.inr x,v=>Value.isStrOf x v
noncomputable def YT(w:World):Key->Int
 |.inl k=>hashInt k
 |.inr x=>hashStr w x
theorem bB:∀{k:Key}{v:Value},Ma k v=true->(∃i t,k=Sum.inl i/\v=Value.int i t)\/(∃x t,k=Sum.inr x/\v=Value.str x t)
 |.inl i,v,h=>by
  obtain⟨t,e⟩:=Value.isInt_shape (k:=i) (v:=v) h;exact .inl ⟨i,t,rfl,e⟩
 |.inr x,v,h=>by
  obtain⟨t,e⟩:=Value.isStrOf_shape (x:=x) (v:=v) h;exact .inr ⟨x,t,rfl,e⟩
theorem Np(a b:Int):decide ((Sum.inl a:Key)=Sum.inl b)=(a==b):=by
 by_cases e:a=b
 . subst e;simp
 .
  have h : ¬ (Sum.inl a:Key)=Sum.inl b:=λq=>e (Sum.inl.inj q)
  rw[nV h];exact (B4.mpr e).symm
theorem Nq(a b:Str):decide ((Sum.inr a:Key)=Sum.inr b)=decide (a=b):=by
 by_cases e:a=b
 . subst e;simp
 .
  have h : ¬ (Sum.inr a:Key)=Sum.inr b:=λq=>e (Sum.inr.inj q)
  rw[nV h,nV e]
theorem Nr(a:Int)(b:Str):decide ((Sum.inl a:Key)=Sum.inr b)=false:=nV (λq=>nomatch q)
theorem Nt(a:Str)(b:Int):decide ((Sum.inr a:Key)=Sum.inl b)=false:=nV (λq=>nomatch q)
def qL(prog:Program)(w:World):PySem.KeyKind prog w Key where
 is:=Ma
 hash:=YT w
 inj:=λv a b ha hb=>by
  rcases bB ha with ⟨i,t,rfl,rfl⟩ |⟨x,t,rfl,rfl⟩
  .
   rcases bB hb with ⟨j,u,rfl,e⟩ |⟨y,u,rfl,e⟩
   . injection e with e1 _;rw[e1]
   . exact nomatch e
  .
   rcases bB hb with ⟨j,u,rfl,e⟩ |⟨y,u,rfl,e⟩
   . exact nomatch e
   . injection e with e1 _;rw[e1]
 byValue:=λk v h=>by
  rcases bB h with ⟨i,t,rfl,rfl⟩ |⟨x,t,rfl,rfl⟩ <;> rfl
 pyHash:=λhv h=>by
  rcases bB hv with ⟨i,t,rfl,rfl⟩ |⟨x,t,rfl,rfl⟩
  . exact wpAny_pyHash_int h
  . exact wpAny_pyHash_str h
 eqBool:=λhu hv h=>by
  rcases bB hu with ⟨i,t,rfl,rfl⟩ |⟨x,t,rfl,rfl⟩
  .
   rcases bB hv with ⟨j,u,rfl,rfl⟩ |⟨y,u,rfl,rfl⟩
   . rw[Np]at h;exact wpAny_eqBool_int h
   . rw[Nr]at h;exact SeqAt.EqAt.int_str i t y u _ _ _ _ h
  .
   rcases bB hv with ⟨j,u,rfl,rfl⟩ |⟨y,u,rfl,rfl⟩
   . rw[Nt]at h;exact SeqAt.EqAt.str_int x t j u _ _ _ _ h
   . rw[Nq]at h;exact wpAny_eqBool_str h
 «strs»:=λk x t v h=>by
  rcases bB h with ⟨i,u,rfl,e⟩ |⟨y,u,rfl,e⟩
  . exact nomatch e
  . injection e with e1 _;subst e1;cases v <;> rfl
inductive V where
 |non |bl (b:Bool) |int (i:Int) |str (x:Str) |Nu (b:Array UInt8) |flt (b:UInt64) |ref (a:Addr) |ty (n:String)
 deriving DecidableEq
noncomputable def RelV:V->Value->Prop
 |.non,u=>u=Value.none
 |.bl b,u=>u=Value.bool b
 |.int i,u=>∃t,u=Value.int i t
 |.str x,u=>∃t,u=Value.str x t
 |.Nu b,u=>∃t,u=Value.bytes b t
 |.flt b,u=>∃t,u=Value.float b t
 |.ref a,u=>u=Value.ref a
 |.ty n,u=>u=Value.type n
abbrev Vals:List V->List Value->Prop:=Paired RelV
theorem Vals.length{xs:List V}{us:List Value}(r:Vals xs us):xs.length=us.length:=Paired.length r
theorem Vals.get:∀{xs:List V}{us:List Value}{i:Nat}{x:V},Vals xs us->xs[i]?=some x->∃u,us[i]?=some u/\RelV x u
 |_,_,_,_,.nil,e=>by simp at e
 |_,_,0,_,.cons r _,e=>by simp at e;subst e;exact⟨_,rfl,r⟩
 |_,_,i+1,x,.cons _ t,e=>by
  obtain⟨u,h1,h2⟩:=Vals.get (i:=i) (x:=x) t (by simpa using e)
  exact⟨u,by simpa using h1,h2⟩
theorem Vals.set{x:V}{u:Value}(r:RelV x u):∀{xs:List V}{us:List Value} (i:Nat),Vals xs us->Vals (xs.set i x) (us.set i u)
 |_,_,_,.nil=>.nil
 |_,_,0,.cons _ t=>.cons r t
 |_,_,i+1,.cons q t=>.cons q (Vals.set r i t)
theorem Vals.append:∀{xs ys:List V}{us ws:List Value},Vals xs us->Vals ys ws->Vals (xs++ys) (us++ws)
 |_,_,_,_,.nil,s=>s
 |_,_,_,_,.cons r t,s=>.cons r (Vals.append t s)
theorem Vals.take:∀{xs:List V}{us:List Value} (n:Nat),Vals xs us->Vals (xs.take n) (us.take n)
 |_,_,0,_=>.nil
 |_,_,_+1,.nil=>.nil
 |_,_,n+1,.cons r t=>.cons r (Vals.take n t)
theorem Vals.drop:∀{xs:List V}{us:List Value} (n:Nat),Vals xs us->Vals (xs.drop n) (us.drop n)
 |_,_,0,r=>r
 |_,_,_+1,.nil=>.nil
 |_,_,n+1,.cons _ t=>Vals.drop n t
def Uu:Option V->Option Value->Prop
 |some v,some u=>RelV v u
 |none,none=>True
 |_,_=>False
def KV{κ:Type}:List (κ×V)->List (κ×Value)->Prop:=Paired λ(p:κ×V) (q:κ×Value)=>p.1=q.1/\RelV p.2 q.2
noncomputable def kV:Key->V
 |.inl i=>.int i
 |.inr x=>.str x
inductive HO where
 |lst (xs:List V)
 |tup (xs:List V)
 |dK (jf:List (Key×V)) |dT (jf:List (List Key×V))
 |set (S:Int->Bool) (n:Nat)
 |ins (C dx:Addr) (fs:List (Str×V))
 |own (x:Addr)
 |xd (fs:List (Str×V))
 |met (f x:Addr)
 |XJ (lo hi:Int)
 |iN (o:Obj) (u:HO)
 |j3 (ps:Array Value)
 |ext (φ:Heap->Prop)
abbrev Hp:=Addr->Option HO
noncomputable def upd(H:Hp)(a:Addr)(o:HO):Hp:=λb=>if b=a then some o else H b
theorem az:upd H a o a=some o:=by unfold upd;rw[fN rfl]
theorem au(h:b≠a):upd H a o b=H b:=by unfold upd;rw[fR h]
theorem aG{H:Hp}{a b:Addr}{o:HO}(h:H a=some o)(h':H b=none):a≠b:=by intro e;subst e;rw[h]at h';cases h'
def eu(h:Heap)(a:Addr)(its:Array Value):Prop:=∃o,h.get? a=some o/\(o.cls=.type "tuple" /\∃n,o.data=.seq its n)/\o.dict=none
theorem eu.tup{h:Heap}{a:Addr}{its:Array Value}(x:eu h a its):IsTup h a its:=let ⟨o,e,c,_⟩:=x;⟨o,e,c⟩
theorem eu.new(h:Heap)(its:Array Value):eu (h.push { cls:=.type "tuple",data:=.seq its}) h.objs.size its:=⟨_,eD _ rfl,⟨rfl,_,rfl⟩,rfl⟩
section
variable(P:Program)(w:World)
def dz(H:Hp)(h:Heap)(a:Addr):HO->Prop
 |.lst xs=>xs.length<=sizeLine/\∃(its:List Value) (n:Nat),Vals xs its/\h.get? a=some { cls:=.type "list",data:=.seq its.toArray n}
 |.tup xs=>xs.length<=sizeLine/\∃its:List Value,Vals xs its/\eu h a its.toArray
 |.dK jf=>jf.length<=sizeLine/\(a==sysModules)=false/\∃vs,KV jf vs/\h.DictOf (qL P w) a vs
 |.dT jf=>jf.length<=sizeLine/\(a==sysModules)=false/\∃xs:List (List Key×Addr×Value),
   Paired (λ(p:List Key×V) (q:List Key×Addr×Value)=>p.1=q.1/\H q.2.1=some (.tup (p.1.map kV))/\RelV p.2 q.2.2) jf xs/\
   ∃o es ep,h.get? a=some o/\o.ExactDict/\o.data=.dict es ep/\es.toList=xs.map (entryOfKey (tupleKind (qL P w)))/\(xs.map (·.1)).Nodup
 |.set S n=>h.SetOf (intKind P w) a S n
 |.ins C dx fs=>H dx=some (.own a)/\fs.length<=1000/\dx≠a/\h.get? a=some (PySem.W.instObj C dx)/\
   ∃mA,h.Ns1 dx mA/\(∀f,Uu (fs.lookup f) (mA f))/\PySem.Within mA (fs.map (·.1))
 |.own _=>∃o,h.get? a=some o
 |.xd fs=>∃mA,h.Ns1 a mA/\∀f,Uu (fs.lookup f) (mA f)
 |.XJ lo hi=>∃t u v,h.get? a=some { cls:=.type "range",data:=.fields #[.int lo t,.int hi u,.int 1 v]}
 |.iN o u=>h.get? a=some o/\dz H h a u
 |.j3 ps=>h.get? a=some { cls:=.none,data:=.fields ps}
 |.met f x=>h.get? a=some (PySem.W.methodObj (.ref f) (.ref x))
 |.ext φ=>φ h/\(∃o,h.get? a=some o)/\∀h1 h2:Heap,φ h1->(∀o,h1.get? a=some o->h2.get? a=some o)->φ h2
def j4(H:Hp)(h:Heap):Prop:=∀a o,H a=some o->dz P w H h a o
end
section
variable{P:Program}{w:World}{H H':Hp}{h h':Heap}{a:Addr}{o:HO}
theorem dz.lt(x:dz P w H h a o):a<h.objs.size:=by
 cases o with
 |lst xs=>obtain⟨_,_,_,_,e⟩:=x;exact eJ e
 |tup xs=>obtain⟨_,_,_,_,e,_⟩:=x;exact eJ e
 |dK jf=>obtain⟨_,_,_,_,o,_,_,e,_⟩:=x;exact eJ e
 |dT jf=>obtain⟨_,_,_,_,o,_,_,e,_⟩:=x;exact eJ e
 |set S n=>obtain⟨o,_,_,_,e,_⟩:=x;exact eJ e
 |ins C dx fs=>obtain⟨_,_,_,e,_⟩:=x;exact eJ e
 |own y=>obtain⟨_,e⟩:=x;exact eJ e
 |xd fs=>obtain⟨_,⟨_,_,_,e,_⟩,_⟩:=x;exact eJ e
 |XJ lo hi=>obtain⟨_,_,_,e⟩:=x;exact eJ e
 |iN ob u=>obtain⟨e,_⟩:=x;exact eJ e
 |j3 ps=>exact eJ (show h.get? a=some _ from x)
 |met f y=>exact eJ (show h.get? a=some _ from x)
 |ext φ=>obtain⟨_,⟨_,e⟩,_⟩:=x;exact eJ e
theorem Paired.Uv{α β:Type}{F G:α->β->Prop}:∀{l₁:List α}{l₂:List β},Paired F l₁ l₂->(∀a b,F a b->G a b)->Paired G l₁ l₂
 |_,_,.nil,_=>.nil
 |_,_,.cons r t,f=>.cons (f _ _ r) (Paired.Uv t f)
theorem dz.stay(x:dz P w H h a o)(k:∀b u,(b=a\/H b=some (.own a))->h.get? b=some u->h'.get? b=some u)
  (ho:∀b,H b=some (.own a)->H' b=some (.own a)) (ht:∀b xs,H b=some (.tup xs)->H' b=some (.tup xs)):dz P w H' h' a o:=by
 induction o with
 |lst xs=>obtain⟨z,its,n,r,e⟩:=x;exact⟨z,its,n,r,k _ _ (.inl rfl) e⟩
 |tup xs=>obtain⟨z,its,r,ob,e,c⟩:=x;exact⟨z,its,r,ob,k _ _ (.inl rfl) e,c⟩
 |dK jf=>obtain⟨z,y,vs,r,ob,es,ep,e,c⟩:=x;exact⟨z,y,vs,r,ob,es,ep,k _ _ (.inl rfl) e,c⟩
 |dT jf=>obtain⟨z,y,xs,r,ob,es,ep,e,c⟩:=x;exact⟨z,y,xs,Paired.Uv r λp q z=>⟨z.1,ht _ _ z.2.1,z.2.2⟩,ob,es,ep,k _ _ (.inl rfl) e,c⟩
 |set S n=>obtain⟨ob,es,ep,t,e,c⟩:=x;exact⟨ob,es,ep,t,k _ _ (.inl rfl) e,c⟩
 |ins C dx fs=>obtain⟨d,z,ne,e,mA,⟨od,es,ep,e2,c⟩,r⟩:=x;exact⟨ho _ d,z,ne,k _ _ (.inl rfl) e,mA,⟨od,es,ep,k _ _ (.inr d) e2,c⟩,r⟩
 |own y=>obtain⟨ob,e⟩:=x;exact⟨ob,k _ _ (.inl rfl) e⟩
 |xd fs=>obtain⟨mA,⟨od,es,ep,e,c⟩,r⟩:=x;exact⟨mA,⟨od,es,ep,k _ _ (.inl rfl) e,c⟩,r⟩
 |XJ lo hi=>obtain⟨t,u,v,e⟩:=x;exact⟨t,u,v,k _ _ (.inl rfl) e⟩
 |iN ob u ih=>obtain⟨e,q⟩:=x;exact⟨k _ _ (.inl rfl) e,ih q⟩
 |j3 ps=>have e:h.get? a=some { cls:=.none,data:=.fields ps}:=x;show h'.get? a=some { cls:=.none,data:=.fields ps};exact k a _ (.inl rfl) e
 |met f y=>have e:h.get? a=some (PySem.W.methodObj (.ref f) (.ref y)):=x;show h'.get? a=some (PySem.W.methodObj (.ref f) (.ref y));exact k a _ (.inl rfl) e
 |ext φ=>obtain⟨p,⟨o,e⟩,st⟩:=x;exact⟨st _ _ p λo q=>k _ _ (.inl rfl) q,⟨o,k _ _ (.inl rfl) e⟩,st⟩
theorem j4.lt(x:j4 P w H h)(e:H a=some o):a<h.objs.size:=(x a o e).lt
theorem j4.fresh(x:j4 P w H h)(e:h.objs.size<=a):H a=none:=by
 cases q:H a with
 |none=>rfl
 |some u=>exact absurd (eA (x.lt q) e) (o6 _)
theorem j4.kept(x:j4 P w H h)(k:∀b u,h.get? b=some u->h'.get? b=some u):j4 P w H h':=λa o e=>
 (x a o e).stay (λb u _ q=>k b u q) (λ_ q=>q) λ_ _ q=>q
theorem j4.laid(x:j4 P w H h)(k:∀b u,h.get? b=some u->h'.get? b=some u)(hp:h.objs.size<=a)(new:dz P w (upd H a o) h' a o):j4 P w (upd H a o) h':=λb u e=>by
 have hn:=x.fresh hp;by_cases hb:b=a
 . subst hb;rw[az]at e;cases e;exact new
 . rw[au hb]at e;exact (x b u e).stay (λc v _ q=>k c v q) (λc q=>by rw[au (aG q hn)];exact q) λc xs q=>by rw[au (aG q hn)];exact q
end
def Rd(H:Hp)(a:Addr)(u:HO):Prop:=H a=some u\/∃o,H a=some (.iN o u)
theorem Rd.ok{P:Program}{w:World}{H:Hp}{h:Heap}{a:Addr}{u:HO}(r:Rd H a u)(x:j4 P w H h):dz P w H h a u:=by
 rcases r with r |⟨o,r⟩
 . exact x a u r
 . obtain⟨_,q⟩:=x a _ r;exact q
noncomputable def XM:Option HO->Prop
 |some (.lst _)=>True
 |some (.dK _)=>True
 |some (.dT _)=>True
 |some (.set _ _)=>True
 |some (.ins _ _ _)=>True
 |some (.ext _)=>True
 |_=>False
section
variable{P:Program}{w:World}{H:Hp}{h h':Heap}{x e:Addr}{o':HO}
theorem j4.write(ok:j4 P w H h)(mu:XM (H x))(he:e=x\/H e=some (.own x))(k:∀b u,b≠e->h.get? b=some u->h'.get? b=some u)(TF:∃u,h'.get? e=some u)
  (new:dz P w (upd H x o') h' x o'):j4 P w (upd H x o') h':=λb u q=>by
 have Uw:∀c y,H c=some (.own y)->c≠x:=λc y r z=>by subst z;rw[r]at mu;exact mu
 have YW:∀c xs,H c=some (.tup xs)->c≠x:=λc xs r z=>by subst z;rw[r]at mu;exact mu
 by_cases hb:b=x
 . subst hb;rw[az]at q;cases q;exact new
 .
  rw[au hb]at q;by_cases Nv:b=e
  .
   have q':H b=some (.own x):=by
    rcases he with z |z
    . exact absurd (Nv.trans z) hb
    . rw[Nv];exact z
   rw[q]at q';cases q';obtain⟨v,hv⟩:=TF;exact⟨v,by rw[Nv];exact hv⟩
  .
   refine (ok b u q).stay (λc v hc r=>k c v ?_ r) (λc r=>by rw[au (Uw c b r)];exact r) λc xs r=>by rw[au (YW c xs r)];exact r
   rcases hc with rfl |hc
   . exact Nv
   .
    rintro rfl;rcases he with z |z
    . exact Uw c b hc z
    . rw[hc]at z;cases z;exact hb rfl
end
structure Un(fs ex:List Addr)(H H':Hp)(h h':Heap):Prop where
 keep:∀b o,h.get? b=some o->H b=none->b∉fs->b∉ex->h'.get? b=some o
 slot:∀b o,h.get? b=some o->H b=none->b∈fs->b∉ex->∃sl,h'.get? b=some { o with slots:=sl}
 free:∀b o,h.get? b=some o->H b=none->b∉ex->H' b=none
 there:∀b o,h.get? b=some o->b∉ex->∃o',h'.get? b=some o'
 tups:∀b xs,H b=some (.tup xs)->H' b=some (.tup xs)
 jC:∀b o u,H b=some (.iN o u)->H' b=some (.iN o u)
 jD:∀b ps,H b=some (.j3 ps)->∃more,H' b=some (.j3 (ps++more))
section
variable{fs fs' ex ex':List Addr}{H H1 H2:Hp}{h h1 h2 h':Heap}{a x e:Addr}{o:HO}
theorem Un.any(u:Un fs ex H H1 h h1){b:Addr}{ob:Obj}(q:h.get? b=some ob)(n:H b=none)(hx:b∉ex):∃sl,h1.get? b=some { ob with slots:=sl}:=by
 by_cases hb:b∈fs
 . exact u.slot b ob q n hb hx
 . exact⟨ob.slots,u.keep b ob q n hb hx⟩
theorem Un.kept(k:∀b u,h.get? b=some u->h'.get? b=some u):Un fs ex H H h h':=
 ⟨λb ob q _ _ _=>k b ob q,λb ob q _ _ _=>⟨ob.slots,k b ob q⟩,λ_ _ _ n _=>n,λb ob q _=>⟨ob,k b ob q⟩,λ_ _ q=>q,λ_ _ _ q=>q,λ_ ps q=>⟨#[],by rw[q];simp⟩⟩
theorem Un.refl:Un fs ex H H h h:=Un.kept λ_ _ q=>q
theorem Un.laid(k:∀b u,h.get? b=some u->h'.get? b=some u)(hp:h.objs.size<=a)(hn:H a=none):Un fs ex H (upd H a o) h h' where
 keep:=λb u q _ _ _=>k b u q
 slot:=λb u q _ _ _=>⟨u.slots,k b u q⟩
 free:=λb u q n _=>by rw[au (i5 (eA (eJ q) hp))];exact n
 there:=λb u q _=>⟨u,k b u q⟩
 tups:=λb xs q=>by rw[au (aG q hn)];exact q
 jC:=λb u xs q=>by rw[au (aG q hn)];exact q
 jD:=λb ps q=>⟨#[],by rw[au (aG q hn),q];simp⟩
theorem Un.write(mu:XM (H x))(he:e=x\/H e=some (.own x))(k:∀b u,b≠e->h.get? b=some u->h'.get? b=some u)(TF:∃u,h'.get? e=some u):Un fs ex H (upd H x o) h h':=by
 have hx:∀b,H b=none->b≠x:=λb n z=>by subst z;rw[n]at mu;exact mu
 have hb:∀b,H b=none->b≠e:=λb n z=>by
  subst z;rcases he with r |r
  . exact hx b n r
  . rw[n]at r;cases r
 have hm:∀b u,H b=some u->¬ XM (some u)->b≠x:=λb u q nm z=>by subst z;rw[q]at mu;exact nm mu
 refine⟨λb u q n _ _=>k b u (hb b n) q,λb u q n _ _=>⟨u.slots,k b u (hb b n) q⟩,λb u q n _=>by rw[au (hx b n)];exact n,λb u q _=>?_,
  λb xs q=>by rw[au (hm b _ q λz=>z)];exact q,λb u xs q=>by rw[au (hm b _ q λz=>z)];exact q,λb ps q=>⟨#[],by rw[au (hm b _ q λz=>z),q];simp⟩⟩
 by_cases Nv:b=e
 . subst Nv;exact TF
 . exact⟨u,k b u Nv q⟩
end
noncomputable def XQ(h:Heap)(H:Hp):List Addr:=(List.range h.objs.size).filter λa=>(H a).isSome
def qM(h:Heap)(H:Hp):Heap:=PySem.W.hideAll h (XQ h H)
theorem yW(h:Heap)(H:Hp):(qM h H).objs.size=h.objs.size:=PySem.W.hideAll_size _ _
theorem Bu(e:h.get? b=some o)(n:H b=none):(qM h H).get? b=some o:=
 PySem.W.hideAll_get _ e λhm=>by
  have q:(H b).isSome=true:=(hV.mp hm).2;rw[n]at q;simp at q
theorem HQ(e:(qM h H).get? b=some o):h.get? b=some o/\H b=none:=by
 have e':h.get? b=some o:=PySem.W.of_hideAll (XQ h H) e;refine⟨e',?_⟩;cases q:H b with
 |none=>rfl
 |some x=>
  have hm:b∈XQ h H:=hV.mpr ⟨tP.mpr (eJ e'),by simp[q]⟩
  have z:(qM h H).get? b=none:=PySem.W.hideAll_none (XQ h H) hm;rw[z]at e;cases e
noncomputable def HR(g h:Heap)(L:Addr):List (Addr×Obj):=(List.range h.objs.size).filterMap λa=>if a=L\/(g.get? a).isSome=true then none else (h.get? a).map λo=>(a,o)
def rest(g h:Heap)(L d:Addr):List (Addr×Obj):=(HR g h L).filter λp=>decide (p.1≠d)
structure Mod(K:Frag)(mg:Str->Option Value)(base:Heap):Prop where
 Bg:K.In base
 glob:base.Ns mainGlobals mg
 blt:∃mb,base.Ns builtinsNs mb/\∀x:Str,x≠ "__name__" ->mb x=bootBuiltins x
 nolimit:base.NoLimit
structure Cx where
 prog:Program
 w:World
 K:Frag
 mg:Str->Option Value
 base:Heap
 A:Around
 N:List Str
 s₀:Shared
 H₀:Hp
 env:Env
 outer:List Env
 stack:List Env
 ex:List Addr
 fn:Str->Bool
 calm:Bool
 pn:List (Addr×Obj)
 xe:Value->Shared->Prop
def frs(l:List Env):List Addr:=l.filterMap (·.frame)
abbrev Cx.fs(X:Cx):List Addr:=frs X.outer
def gR(sc:Scope)(x:Str):Prop:=sc.names.lookup x=some .local\/sc.names.lookup x=some .cell\/sc.names.lookup x=some .free
def Loc(sc:Scope)(x:Str):Prop:=sc.names.lookup x=some .local\/sc.names.lookup x=some .cell
def Look(env:Env)(h:Heap)(m:Str->Option Value)(x:Str)(u:Value):Prop:=
 (env.kindOf x=some .local/\m x=some u)\/((env.kindOf x=some .cell\/env.kindOf x=some .free)/\∃c,env.cells.lookup x=some c/\h.IsCell c (some u))
structure Cx.Ok(X:Cx):Prop where
 mod:Mod X.K X.mg X.base
 kind:X.env.scope.kind=.function
 glob:X.env.globals=mainGlobals
 blt:X.env.builtins=builtinsNs
 above:X.s₀⁻¹<=X.env.locals
 inj:∀x y c,X.env.cells.lookup x=some c->X.env.cells.lookup y=some c->x=y
 has:∀x,(X.env.kindOf x=some .cell\/X.env.kindOf x=some .free)->∃c,X.env.cells.lookup x=some c
 Nx:∀x c,X.fn x=true->X.env.cells.lookup x=some c->X.s₀⁻¹<=c
 hd:X.calm=true->X.A.handled=none
 frames:X.A.frames=some X.stack
 stk:X.stack=X.outer\/(X.stack=X.env::X.outer/\X.env.frame=some X.env.locals)
 TJ:∀b∈X.ex,b≠X.env.locals/\∀x c,X.env.cells.lookup x=some c->c≠b
 bs:∀b o,X.base.get? b=some o->X.s₀.heap.get? b=some o/\X.H₀ b=none
 Bv:X.base.objs.size<=X.s₀⁻¹
 sU:∀b o,X.base.get? b=some o->b∉X.ex
 vq:∀b∈X.ex,b∉X.fs
 jE:X.s₀.heap.FunFrames X.base X.outer
 HS:∀b∈X.fs,X.H₀ b=none
structure Inv(X:Cx)(ah:List (Addr×Obj))(σ:List (Option V))(H:Hp)(s:Shared):Prop where
 ok:X.Ok
 os:s.os=X.s₀.os
 bare:AllBare s.gens
 base:Un X.fs X.ex X.H₀ H X.s₀.heap s.heap
 loc:∃m,s.heap.Ns X.env.locals m/\∀(i:Nat) (x:Str) (v:V),X.N[i]?=some x->σ[i]?=some (some v)->gR X.env.scope x->∃u,RelV v u/\Look X.env s.heap m x u
 cell:∀x c,X.env.cells.lookup x=some c->∃v,s.heap.IsCell c v
 free:H X.env.locals=none
 dJ:∀x c,X.env.cells.lookup x=some c->H c=none
 pin:∀p∈X.pn++ah,s.heap.get? p.1=some p.2/\H p.1=none/\p.1≠X.env.locals/\p.1∉X.fs/\∀v,p.2.data≠.cell v
 hok:j4 X.prog X.w H s.heap
 len:σ.length=X.N.length
section
variable{X:Cx}{ah:List (Addr×Obj)}{σ:List (Option V)}{H H':Hp}{s:Shared}{h':Heap}
theorem Cx.Ok.YX(ok:X.Ok)(e:X.base.get? b=some o):b∉X.fs:=λhb=>by
 have:=(ok.jE.mem hb).1;rw[e]at this;cases this
theorem Inv.bs(I:Inv X ah σ H s):∀b o,X.base.get? b=some o->s.heap.get? b=some o/\H b=none:=λb o e=>
 ⟨I.base.keep b o (I.ok.bs b o e).1 (I.ok.bs b o e).2 (I.ok.YX e) (I.ok.sU b o e),I.base.free b o (I.ok.bs b o e).1 (I.ok.bs b o e).2 (I.ok.sU b o e)⟩
theorem Inv.bk(I:Inv X ah σ H s):∀b o,X.base.get? b=some o->s.heap.get? b=some o:=λb o e=>(I.bs b o e).1
theorem Inv.mod(I:Inv X ah σ H s):Mod X.K X.mg X.base:=I.ok.mod
theorem Inv.lT(I:Inv X ah σ H s):X.K.In s.heap:=I.ok.mod.Bg.keeps I.bk
theorem Inv.nolimit(I:Inv X ah σ H s):s.heap.NoLimit:=I.ok.mod.nolimit.keeps I.bk
theorem Inv.lt(I:Inv X ah σ H s):X.env.locals<s⁻¹:=let ⟨_,hn,_⟩:=I.loc;hn.lt
theorem Inv.sz(I:Inv X ah σ H s):X.s₀⁻¹<=s⁻¹:=l6 I.ok.above (Cn I.lt)
theorem Inv.YZ(I:Inv X ah σ H s)(h:s⁻¹<=a):a∉X.fs:=λhb=>by
 obtain⟨_,o,ho,_⟩:=I.ok.jE.mem hb;exact absurd (eA (eJ ho) (l6 I.sz h)) (o6 _)
theorem Inv.Ny(I:Inv X ah σ H s):∀x c,X.env.cells.lookup x=some c->c≠X.env.locals:=λx c e z=>by
 obtain⟨v,o,ho,hd⟩:=I.cell x c e;obtain⟨m,⟨o',es,ep,ho',hd',_⟩,_⟩:=I.loc;rw[z,ho']at ho;cases ho;rw[hd']at hd;cases hd
theorem Inv.jE(I:Inv X ah σ H s):s.heap.FunFrames X.base X.outer:=by
 have all:∀(l:List Env),(∀b∈frs l,b∈X.fs)->X.s₀.heap.FunFrames X.base l->s.heap.FunFrames X.base l:=by
  intro l
  induction l with
  |nil=>intro _ _;trivial
  |cons env r ih=>
   intro hs hl;obtain⟨hk,⟨L,o,hf,hn,ho,hd⟩,hr⟩:=hl;have hL:L∈X.fs:=hs L (by unfold frs;rw[mI,hf];exact dA)
   obtain⟨sl,e⟩:=I.base.slot L o ho (I.ok.HS L hL) hL λz=>I.ok.vq L z hL
   exact⟨hk,⟨L,_,hf,hn,e,hd⟩,ih (λb hb=>hs b (by unfold frs;rw[mI,hf];exact b0 _ hb)) hr⟩
 exact all X.outer (λ_ hb=>hb) I.ok.jE
theorem Inv.stack(I:Inv X ah σ H s):s.heap.FunFrames X.base X.stack:=by
 rcases I.ok.stk with e |⟨e,hf⟩
 . rw[e];exact I.jE
 .
  rw[e];obtain⟨m,hn,_⟩:=I.loc;refine .cons (by rw[I.ok.kind];decide) hf hn ?_ I.jE
  exact Heap.get?_none_of_le (l6 I.ok.Bv I.ok.above)
theorem Inv.vA(I:Inv X ah σ H s):∀b∈frs X.stack,b∈X.env.locals::X.fs:=λb hb=>by
 rcases I.ok.stk with e |⟨e,hf⟩
 . rw[e]at hb;exact b0 _ hb
 . rw[e]at hb;unfold frs at hb;rw[mI,hf]at hb;exact hb
theorem Inv.qN(I:Inv X ah σ H s):∀b∈frs X.stack,H b=none:=λb hb=>by
 rcases d0.mp (I.vA b hb)with e |hb
 . rw[e];exact I.free
 . obtain⟨_,o,ho,_⟩:=I.ok.jE.mem hb;exact I.base.free b o ho (I.ok.HS b hb) λz=>I.ok.vq b z hb
theorem Inv.step{g':Array GenState}{t':Nat}{d':Drawn}{ch:List Addr}(I:Inv X ah σ H s)
  (hch:∀b∈ch,(b∈X.ex\/X.s₀⁻¹<=b)/\b≠X.env.locals/\(∀x c,X.env.cells.lookup x=some c->c≠b)/\∀p∈X.pn++ah,p.1≠b)
  (keep:∀b o,b≠X.env.locals->b∉X.fs->b∉ch->s.heap.get? b=some o->H b=none->h'.get? b=some o)
  (slot:∀b o,b≠X.env.locals->b∈X.fs->b∉ch->s.heap.get? b=some o->H b=none->∃sl,h'.get? b=some { o with slots:=sl}) (free:∀b o,b∉ch->s.heap.get? b=some o->H b=none->H' b=none)
  (there:∀b o,b∉ch->s.heap.get? b=some o->∃o',h'.get? b=some o')
  (tups:∀b xs,H b=some (.tup xs)->H' b=some (.tup xs)) (jC:∀b o u,H b=some (.iN o u)->H' b=some (.iN o u)) (jD:∀b ps,H b=some (.j3 ps)->∃more,H' b=some (.j3 (ps++more)))
  (ns:∀m,s.heap.Ns X.env.locals m->h'.Ns X.env.locals m) (hok:j4 X.prog X.w H' h') (hg:AllBare g') :
  Inv X ah σ H' { s with heap:=h',gens:=g',drawn:=d',toks:=t'}:=by
 have neL:∀b o,X.s₀.heap.get? b=some o->b≠X.env.locals:=λb o e=>i5 (eA (eJ e) I.ok.above)
 have XR:∀b o,X.s₀.heap.get? b=some o->b∉X.ex->b∉ch:=λb o e hx hb=>by
  rcases (hch b hb).1 with z |z
  . exact hx z
  . exact absurd (eA (eJ e) z) (o6 _)
 have cellK:∀x c,X.env.cells.lookup x=some c->∀v,s.heap.IsCell c v->h'.IsCell c v:=λx c e v ⟨o,ho,hd⟩=>by
  have Ux:c∉ch:=λz=>(hch c z).2.2.1 x c e rfl
  by_cases hc:c∈X.fs
  . obtain⟨sl,q⟩:=slot c o (I.Ny x c e) hc Ux ho (I.dJ x c e);exact⟨_,q,hd⟩
  . exact⟨o,keep c o (I.Ny x c e) hc Ux ho (I.dJ x c e),hd⟩
 refine⟨I.ok,I.os,hg,⟨λb o e n hb hx=>?_,λb o e n hb hx=>?_,λb o e n hx=>?_,λb o e hx=>?_,λb xs e=>tups b xs (I.base.tups b xs e),λb o xs e=>jC b o xs (I.base.jC b o xs e),λb ps e=>?_⟩,?_,λx c e=>?_,?_,λx c e=>?_,λp hp=>?_,hok,I.len⟩
 . exact keep b o (neL b o e) hb (XR b o e hx) (I.base.keep b o e n hb hx) (I.base.free b o e n hx)
 . obtain⟨sl,e1⟩:=I.base.slot b o e n hb hx;obtain⟨XS,e2⟩:=slot b _ (neL b o e) hb (XR b o e hx) e1 (I.base.free b o e n hx);exact⟨XS,e2⟩
 . obtain⟨o',e1⟩:=I.base.there b o e hx;exact free b o' (XR b o e hx) e1 (I.base.free b o e n hx)
 . obtain⟨o',e1⟩:=I.base.there b o e hx;exact there b o' (XR b o e hx) e1
 . obtain⟨m1,e1⟩:=I.base.jD b ps e;obtain⟨m2,e2⟩:=jD b _ e1;exact⟨m1++m2,by rw[e2,Array.append_assoc]⟩
 .
  obtain⟨m,hn,hl⟩:=I.loc;refine⟨m,ns m hn,λi x v e1 e2 e3=>?_⟩
  obtain⟨u,r,l⟩:=hl i x v e1 e2 e3;refine⟨u,r,?_⟩;rcases l with l |⟨k,c,e,z⟩
  . exact .inl l
  . exact .inr ⟨k,c,e,cellK x c e _ z⟩
 . obtain⟨v,z⟩:=I.cell x c e;exact⟨v,cellK x c e v z⟩
 . obtain⟨m,⟨o,_,_,ho,_⟩,_⟩:=I.loc;exact free _ o (λz=>(hch _ z).2.1 rfl) ho I.free
 . obtain⟨v,o,ho,hd⟩:=I.cell x c e;exact free c o (λz=>(hch c z).2.2.1 x c e rfl) ho (I.dJ x c e)
 .
  obtain⟨e,n,ne,nf,d⟩:=I.pin p hp;have Ux:p.1∉ch:=λz=>(hch p.1 z).2.2.2 p hp rfl
  exact⟨keep p.1 p.2 ne nf Ux e n,free p.1 p.2 Ux e n,ne,nf,d⟩
theorem Inv.un{t':Nat}(I:Inv X ah σ H s)(u:Un X.fs [] H H' s.heap h')(hok:j4 X.prog X.w H' h'):Inv X ah σ H' { s with heap:=h',toks:=t'}:=by
 obtain⟨m,⟨o,es,ep,ho,r⟩,_⟩:=id I.loc;obtain⟨sl,hL⟩:=u.any ho I.free ⋯;exact I.step (g':=s.gens) (d':=s.drawn) (ch:=[]) (λ_ z=>nomatch z) (λb o _ hb _ e n=>u.keep b o e n hb ⋯) (λb o _ hb _ e n=>u.slot b o e n hb ⋯) (λb o _ e n=>u.free b o e n ⋯) (λb o _ e=>u.there b o e ⋯) u.tups u.jC u.jD (λm' hm=>by
  obtain⟨o',es',HW,ho',r'⟩:=hm;rw[ho]at ho';cases ho';exact⟨_,es',HW,hL,r'⟩) hok I.bare
theorem Inv.call{g':Array GenState}{t':Nat}{d':Drawn}{ch:List Addr}(I:Inv X ah σ H s)(u:Un (frs X.stack) ch H H' s.heap h')(hok:j4 X.prog X.w H' h')(hg:AllBare g')
  (hch:∀b∈ch,(b∈X.ex\/X.s₀⁻¹<=b)/\b≠X.env.locals/\(∀x c,X.env.cells.lookup x=some c->c≠b)/\∀p∈X.pn++ah,p.1≠b) :
  Inv X ah σ H' { s with heap:=h',gens:=g',drawn:=d',toks:=t'}:=by
 obtain⟨m,⟨o,es,ep,ho,r⟩,_⟩:=id I.loc;obtain⟨sl,hL⟩:=u.any ho I.free λz=>(hch _ z).2.1 rfl
 exact I.step (ch:=ch) hch (λb o hL hb hc e n=>u.keep b o e n (λz=>(d0.mp (I.vA b z)).elim hL hb) hc) (λb o _ _ hc e n=>u.any e n hc) (λb o hc e n=>u.free b o e n hc) (λb o hc e=>u.there b o e hc) u.tups u.jC u.jD (λm' hm=>by
  obtain⟨o',es',HW,ho',r'⟩:=hm;rw[ho]at ho';cases ho';exact⟨_,es',HW,hL,r'⟩) hok hg
theorem Inv.turned{t':Nat}{it:Addr}(I:Inv X ah σ H s)(k:∀b o,b≠it->s.heap.get? b=some o->h'.get? b=some o)(hn:H it=none)(hL:it≠X.env.locals)
  (h1:it∈X.ex\/X.s₀⁻¹<=it) (h2:∀x c,X.env.cells.lookup x=some c->c≠it) (h3:∀p∈X.pn++ah,p.1≠it):Inv X ah σ H { s with heap:=h',toks:=t'}:=by
 have nit:∀b u,H b=some u->b≠it:=λb u e z=>by rw[z,hn]at e;cases e
 refine I.step (g':=s.gens) (d':=s.drawn) (ch:=[it]) (λb hb=>?_) (λb o _ _ hc e _=>k b o (λz=>hc (by simp[z])) e) (λb o _ _ hc e _=>⟨o.slots,k b o (λz=>hc (by simp[z])) e⟩) (λ_ _ _ _ n=>n)
  (λb o hc e=>⟨o,k b o (λz=>hc (by simp[z])) e⟩) (λ_ _ e=>e) (λ_ _ _ e=>e) (λb ps e=>⟨#[],by rw[e];simp⟩) (λm hm=>?_) (λb u e=>?_) I.bare
 .
  have e:b=it:=by simpa using hb
  subst e;exact⟨h1,hL,h2,h3⟩
 . obtain⟨o,es,ep,ho,r⟩:=hm;exact⟨o,es,ep,k _ o (nN hL) ho,r⟩
 .
  refine (I.hok b u e).stay (λc v hc q=>k c v ?_ q) (λ_ q=>q) λ_ _ q=>q
  rcases hc with z |z
  . rw[z];exact nit b u e
  . exact nit c _ z
theorem Inv.tok(I:Inv X ah σ H s)(t:Nat):Inv X ah σ H { s with toks:=t}:=I.un (h':=s.heap) (t':=t) Un.refl I.hok
theorem Inv.kept{t':Nat}(I:Inv X ah σ H s)(k:∀b u,s.heap.get? b=some u->h'.get? b=some u):Inv X ah σ H { s with heap:=h',toks:=t'}:=I.un (Un.kept k) (I.hok.kept k)
theorem Inv.laid{a:Addr}{o:HO}{t':Nat}(I:Inv X ah σ H s)(k:∀b u,s.heap.get? b=some u->h'.get? b=some u)(hp:s⁻¹<=a)(new:dz X.prog X.w (upd H a o) h' a o) :
  Inv X ah σ (upd H a o) { s with heap:=h',toks:=t'}:=I.un (Un.laid k hp (I.hok.fresh hp)) (I.hok.laid k hp new)
theorem Inv.write(I:Inv X ah σ H s)(mu:XM (H x))(he:e=x\/H e=some (.own x))(k:∀b u,b≠e->s.heap.get? b=some u->h'.get? b=some u)(TF:∃u,h'.get? e=some u)
  (new:dz X.prog X.w (upd H x o) h' x o):Inv X ah σ (upd H x o) { s with heap:=h',toks:=t'}:=I.un (Un.write mu he k TF) (I.hok.write mu he k TF new)
theorem Inv.xA(I:Inv X ah σ H s)(h:∀p∈Uy,s.heap.get? p.1=some p.2/\H p.1=none/\p.1≠X.env.locals/\p.1∉X.fs/\∀v,p.2.data≠.cell v):Inv X Uy σ H s:=
 ⟨I.ok,I.os,I.bare,I.base,I.loc,I.cell,I.free,I.dJ,λp hp=>(o0.mp hp).elim (λz=>I.pin p (AL _ z)) (h p),I.hok,I.len⟩
theorem mJ{N:List Str}(hN:N.Nodup){i j:Nat}{x:Str}(a:N[i]?=some x)(b:N[j]?=some x):i=j:=by obtain⟨h1,e1⟩:=dE.mp a;obtain⟨h2,e2⟩:=dE.mp b;exact (List.getElem_inj hN).mp (e1.trans e2.symm)
theorem pR{M:Model}{A:Around}{E:Value->Shared->Prop}{i:Nat}{x:Str}{v:V}{u:Value}{Q:Unit->Shared->Prop}(I:Inv X ah σ H s)(hN:X.N.Nodup)(hi:X.N[i]?=some x)(hx:Loc X.env.scope x)(r:RelV v u)
  (h:∀s',Inv X ah (σ.set i (some v)) H s'->(∃a,Heap.SameBut a s.heap s'.heap/\(a=X.env.locals\/X.env.cells.lookup x=some a))->Q () s') (hf:X.fn x=true\/X.env.scope.names.lookup x=some .local:=by first |exact .inl rfl |exact .inr rfl |assumption):wpAny M A (storeName X.env x u) Q E s:=by
 obtain⟨m,hn,hl⟩:=id I.loc;have hcls:(X.env.scope.kind==.class||(X.env.scope.kind==.module&&X.env.locals != X.env.globals))=false:=by rw[I.ok.kind];rfl
 have Uz:i<σ.length:=by rw[I.len];exact (dE.mp hi).1
 have Ny:=I.Ny;have tracked:∀{a:Addr}{h':Heap},(∃o,s.heap.get? a=some o/\H a=none)->Heap.SameBut a s.heap h'->j4 X.prog X.w H h':=λ{a h'} ha hs b ob e=>by
  obtain⟨_,_,hfree⟩:=ha;refine (I.hok b ob e).stay (λc w' hc q=>(hs.2 c ?_).trans q) (λ_ q=>q) λ_ _ q=>q
  rintro rfl;rcases hc with rfl |hc
  . rw[hfree]at e;cases e
  . rw[hfree]at hc;cases hc
 rcases hx with hk |hk
 .
  refine wpAny_storeName_local hk hn (λh' hn' hs=>?_) hcls
  obtain⟨oL,_,_,XT,_⟩:=id hn;refine h _ ⟨I.ok,I.os,I.bare,⟨λb o e n hb hx=>?_,λb o e n hb hx=>?_,I.base.free,λb o e hx=>?_,I.base.tups,I.base.jC,I.base.jD⟩,⟨_,hn',λj y v' e1 e2 e3=>?_⟩,λy c e=>?_,I.free,I.dJ,λp hp=>?_,tracked ⟨oL,XT,I.free⟩ hs,by simpa using I.len⟩ ⟨_,hs,.inl rfl⟩
  . exact (hs.2 b (i5 (eA (eJ e) I.ok.above))).trans (I.base.keep b o e n hb hx)
  . obtain⟨sl,e1⟩:=I.base.slot b o e n hb hx;exact⟨sl,(hs.2 b (i5 (eA (eJ e) I.ok.above))).trans e1⟩
  . obtain⟨o',e1⟩:=I.base.there b o e hx;exact⟨o',(hs.2 b (i5 (eA (eJ e) I.ok.above))).trans e1⟩
  .
   by_cases hj:j=i
   . subst hj;rw[hi]at e1;cases e1;rw[eQ Uz]at e2;cases e2;exact⟨u,r,.inl ⟨hk,by simp⟩⟩
   .
    rw[eC (nN hj)]at e2;obtain⟨u',r',q⟩:=hl j y v' e1 e2 e3;refine⟨u',r',?_⟩;rcases q with ⟨k,e⟩ |⟨k,c,e,z⟩
    .
     refine .inl ⟨k,?_⟩;have:y≠x:=λe=>hj (mJ hN e1 (e▸hi))
     simp[this,e]
    . exact .inr ⟨k,c,e,z.sameBut hs (Ny y c e)⟩
  . obtain⟨w',z⟩:=I.cell y c e;exact⟨w',z.sameBut hs (Ny y c e)⟩
  . obtain⟨e,n,ne,nf,d⟩:=I.pin p hp;exact⟨(hs.2 p.1 ne).trans e,n,ne,nf,d⟩
 .
  have hfn:X.fn x=true:=by
   rcases hf with z |z
   . exact z
   . rw[z]at hk;cases hk
  obtain⟨c,hc⟩:=I.ok.has x (.inl hk);obtain⟨w',z⟩:=I.cell x c hc;refine wpAny_storeName_cell I.ok.kind hk hc z (λh' hc' hs=>?_)
  obtain⟨oc,hoc,Y0⟩:=id z;refine h { s with heap:=h'} ⟨I.ok,I.os,I.bare,⟨λb o e n hb hx=>?_,λb o e n hb hx=>?_,I.base.free,λb o e hx=>?_,I.base.tups,I.base.jC,I.base.jD⟩,⟨m,hn.sameBut hs (nN (Ny x c hc)),λj y v' e1 e2 e3=>?_⟩,λy c' e=>?_,I.free,I.dJ,λp hp=>?_,tracked ⟨oc,hoc,I.dJ x c hc⟩ hs,by simpa using I.len⟩ ⟨c,hs,.inr hc⟩
  . exact (hs.2 b (i5 (eA (eJ e) (I.ok.Nx x c hfn hc)))).trans (I.base.keep b o e n hb hx)
  . obtain⟨sl,e1⟩:=I.base.slot b o e n hb hx;exact⟨sl,(hs.2 b (i5 (eA (eJ e) (I.ok.Nx x c hfn hc)))).trans e1⟩
  . obtain⟨o',e1⟩:=I.base.there b o e hx;exact⟨o',(hs.2 b (i5 (eA (eJ e) (I.ok.Nx x c hfn hc)))).trans e1⟩
  .
   by_cases hj:j=i
   . subst hj;rw[hi]at e1;cases e1;rw[eQ Uz]at e2;cases e2;exact⟨u,r,.inr ⟨.inl hk,c,hc,hc'⟩⟩
   .
    rw[eC (nN hj)]at e2;obtain⟨u',r',q⟩:=hl j y v' e1 e2 e3;refine⟨u',r',?_⟩;rcases q with q |⟨k,c',e,z'⟩
    . exact .inl q
    . refine .inr ⟨k,c',e,z'.sameBut hs ?_⟩;rintro rfl;exact hj (mJ hN e1 (I.ok.inj _ _ _ e hc▸hi))
  .
   by_cases hcc:c'=c
   . subst hcc;exact⟨_,hc'⟩
   . obtain⟨w2,z2⟩:=I.cell y c' e;exact⟨w2,z2.sameBut hs hcc⟩
  . obtain⟨e,n,ne,nf,d⟩:=I.pin p hp;refine⟨(hs.2 p.1 ?_).trans e,n,ne,nf,d⟩;intro q;rw[q,hoc]at e;have q':oc=p.2:=n0 e;exact d w' (by rw[<- q'];exact Y0)
theorem gS{M:Model}{A:Around}{E:Value->Shared->Prop}{i:Nat}{x:Str}{v:V}{u:Value}{Q:Unit->Shared->Prop}(I:Inv X ah σ H s)(hN:X.N.Nodup)(hi:X.N[i]?=some x)(hx:Loc X.env.scope x)(r:RelV v u)
  (h:∀s',Inv X ah (σ.set i (some v)) H s'->Q () s') (hf:X.fn x=true\/X.env.scope.names.lookup x=some .local:=by first |exact .inl rfl |exact .inr rfl |assumption):wpAny M A (storeName X.env x u) Q E s:=
 pR I hN hi hx r (λs' I' _=>h s' I') hf
theorem Inv.call'(I:Inv X ah σ H s)(ho:s'.os=s.os)(u:Un (frs X.stack) ch H H' s.heap s'.heap)(hok:j4 X.prog X.w H' s'.heap)(hg:AllBare s'.gens)
  (hch:∀b∈ch,(b∈X.ex\/X.s₀⁻¹<=b)/\b≠X.env.locals/\(∀x c,X.env.cells.lookup x=some c->c≠b)/\∀p∈X.pn++ah,p.1≠b):Inv X ah σ H' s':=by
 obtain⟨h',g',d',t',o'⟩:=s';have e:o'=s.os:=ho;subst e;exact I.call (g':=g') (t':=t') (d':=d') u hok hg hch
end
abbrev XK:=Value->Option Addr->Hp->Prop
abbrev St:=List (Option V)
abbrev VK:=V->Hp->Prop
abbrev TE:=St->Hp->VK->Prop
abbrev TT:=St->Hp->(Bool->Hp->Prop)->Prop
abbrev TA:=St->Hp->(List V->Hp->Prop)->Prop
structure Ends where
 nx:St->Hp->Prop
 rt:VK
 bk:St->Hp->Prop:=λ_ _=>False
 ct:St->Hp->Prop:=λ_ _=>False
abbrev TS:=Ends->St->Hp->Prop
def EP(X:Cx)(ah:List (Addr×Obj))(σ:St)(Q:VK)(u:Value)(s':Shared):Prop:=∃v H',Inv X ah σ H' s'/\RelV v u/\Q v H'
def TP(X:Cx)(ah:List (Addr×Obj))(σ:St)(Q:Bool->Hp->Prop)(b:Bool)(s':Shared):Prop:=∃H',Inv X ah σ H' s'/\Q b H'
def AP(X:Cx)(ah:List (Addr×Obj))(σ:St)(Q:List V->Hp->Prop)(us:List Value)(s':Shared):Prop:=∃vs H',Inv X ah σ H' s'/\Vals vs us/\Q vs H'
def SP(X:Cx)(ah:List (Addr×Obj))(D:Ends)(f:Flow)(s':Shared):Prop:=
 match f with
 |.next=>∃σ' H',Inv X ah σ' H' s'/\D.nx σ' H'
 |.brk=>∃σ' H',Inv X ah σ' H' s'/\D.bk σ' H'
 |.cont=>∃σ' H',Inv X ah σ' H' s'/\D.ct σ' H'
 |.ret u=>∃v σ' H',Inv X ah σ' H' s'/\RelV v u/\D.rt v H'
def PE(X:Cx)(e:Expr)(t:TE):Prop:=
 ∀(ah:List (Addr×Obj)) (s:Shared) (σ:St) (H:Hp) (Q:VK),Inv X ah σ H s->t σ H Q->wpAny (model X.prog X.w) X.A (eval e X.env) (EP X ah σ Q) X.xe s
def PT(X:Cx)(e:Expr)(t:TT):Prop:=
 ∀(ah:List (Addr×Obj)) (s:Shared) (σ:St) (H:Hp) (Q:Bool->Hp->Prop),Inv X ah σ H s->t σ H Q->wpAny (model X.prog X.w) X.A (isTrue e X.env (eval e X.env)) (TP X ah σ Q) X.xe s
def PW(X:Cx)(e:Expr)(t:TT):Prop:=
 ∀(whole:Sem Value) (ah:List (Addr×Obj)) (s:Shared) (σ:St) (H:Hp) (Q:Bool->Hp->Prop),Inv X ah σ H s->t σ H Q->wpAny (model X.prog X.w) X.A (isTrue e X.env whole) (TP X ah σ Q) X.xe s
theorem PW.pt{X:Cx}{e:Expr}{t:TT}(h:PW X e t):PT X e t:=h _
def PA(X:Cx)(es:List Expr)(t:TA):Prop:=
 ∀(pos:Pos) (ah:List (Addr×Obj)) (s:Shared) (σ:St) (H:Hp) (Q:List V->Hp->Prop),Inv X ah σ H s->t σ H Q->wpAny (model X.prog X.w) X.A (spliced (backTo pos (starEach es X.env))) (AP X ah σ Q) X.xe s
def PS(X:Cx)(st:Stmt)(t:TS):Prop:=
 ∀(ah:List (Addr×Obj)) (s:Shared) (σ:St) (H:Hp) (D:Ends),Inv X ah σ H s->t D σ H->wpAny (model X.prog X.w) X.A (exec st X.env) (SP X ah D) X.xe s
def qO(X:Cx)(st:List Stmt)(t:TS):Prop:=
 ∀(ah:List (Addr×Obj)) (s:Shared) (σ:St) (H:Hp) (D:Ends),Inv X ah σ H s->t D σ H->wpAny (model X.prog X.w) X.A (execs st X.env) (SP X ah D) X.xe s
theorem bQ{α:Type}{t:Sem α}{Q Q':α->Shared->Prop}{M:Model}{A:Around}{E:Value->Shared->Prop}{s:Shared}(h:wpAny M A t Q E s)(hQ:∀a s,Q a s->Q' a s):wpAny M A t Q' E s:=lS h hQ λ_ _ x=>x
section
variable{X:Cx}
theorem bin{a b:Expr}{ta tb:TE}(ha:PE X a ta)(hb:PE X b tb){ah:List (Addr×Obj)}{s:Shared}{σ:St}{H:Hp}{R:V->V->Hp->Prop}(I:Inv X ah σ H s)(h:ta σ H λx H1=>tb σ H1 λy H2=>R x y H2)
  {α:Type}{Q:α->Shared->Prop}{f:Value->Value->Sem α}
  (hf:∀v u s2 x y H2,Inv X ah σ H2 s2->RelV x v->RelV y u->R x y H2->wpAny (model X.prog X.w) X.A (f v u) Q X.xe s2) :
  wpAny (model X.prog X.w) X.A (eval a X.env) (λv s₁=>wpAny (model X.prog X.w) X.A (eval b X.env) (λu s₂=>wpAny (model X.prog X.w) X.A (f v u) Q X.xe s₂) X.xe s₁) X.xe s:=by
 refine bQ (ha ah s σ H _ I h) λv s1 ⟨x,H1,I1,r1,q1⟩=>?_
 refine bQ (hb ah s1 σ H1 _ I1 q1) λu s2 ⟨y,H2,I2,r2,q2⟩=>?_
 exact hf v u s2 x y H2 I2 r1 r2 q2
def Nz(i:Nat):TE:=λσ H Q=>∃v,σ[i]?=some (some v)/\Q v H
def tC(v:V):TE:=λ_ H Q=>Q v H
theorem cg(hN:X.N[i]?=some x)(hv:gR X.env.scope x)(hd:(x==("__debug__":Str))=false:=by decide)(bI:(x==("__classdict__":Str))=false:=by decide):PE X (.Name x pos) (Nz i):=by
 intro ah s σ H Q I h;obtain⟨v,e,h⟩:=h;obtain⟨m,hn,hl⟩:=I.loc;obtain⟨u,r,l⟩:=hl i x v hN e hv;have fin:EP X ah σ Q u s:=⟨v,H,I,r,h⟩;rcases l with ⟨hk,hm⟩ |⟨hk,c,hc,hcell⟩
 . exact CC (wpAny_loadName_local I.ok.kind hk hn hm fin) hd
 .
  rcases hk with hk |hk
  . exact CC (wpAny_loadName_cell I.ok.kind hk hc hcell fin) hd
  . exact CC (wpAny_loadName_free I.ok.kind hk hc hcell fin bI) hd
theorem Bw{i j pos}:PE X (.Constant (.int i) j pos) (tC (.int i)):=λ_ _ _ H _ I h=>wpAny_Constant_int ⟨.int i,H,I.tok _,⟨_,rfl⟩,h⟩
theorem UG{b j pos}:PE X (.Constant (.bool b) j pos) (tC (.bl b)):=λ_ _ _ H _ I h=>Constant_bool ⟨.bl b,H,I,rfl,h⟩
theorem Bx{j pos}:PE X (.Constant .none j pos) (tC .non):=λ_ _ _ H _ I h=>Constant_none ⟨.non,H,I,rfl,h⟩
theorem NB{x j pos}:PE X (.Constant (.str x) j pos) (tC (.str x)):=λ_ _ _ H _ I h=>Calls.Constant_str ⟨.str x,H,I.tok _,⟨_,rfl⟩,h⟩
def Gl(X:Cx)(x:Str):Prop:=X.env.kindOf x=some .globalImplicit
theorem eU{E:Value->Shared->Prop}{ah:List (Addr×Obj)}{s:Shared}{σ:St}{H:Hp}{x:Str}{u:Value}{pos:Pos}{Q:Value->Shared->Prop}(I:Inv X ah σ H s)(hg:Gl X x)(hm:X.mg x=some u)(h:Q u s)
  (hd:(x==("__debug__":Str))=false:=by decide):wpAny (model X.prog X.w) X.A (eval (.Name x pos) X.env) Q E s:=
 Calls.Name_function_global I.ok.kind hg (Calls.loadGlobal_global (by rw[I.ok.glob];exact I.mod.glob.keeps I.bk) hm h) hd
theorem fO{E:Value->Shared->Prop}{ah:List (Addr×Obj)}{s:Shared}{σ:St}{H:Hp}{x:Str}{u:Value}{pos:Pos}{Q:Value->Shared->Prop}(I:Inv X ah σ H s)(hg:Gl X x)(hm:X.mg x=none)(hv:bootBuiltins x=some u)(h:Q u s)
  (hn:x≠ "__name__" :=by decide) (hd:(x==("__debug__":Str))=false:=by decide):wpAny (model X.prog X.w) X.A (eval (.Name x pos) X.env) Q E s:=by
 obtain⟨mb,h1,h2⟩:=I.mod.blt;exact Calls.Name_function_global I.ok.kind hg (Calls.loadGlobal_builtin (by rw[I.ok.glob];exact I.mod.glob.keeps I.bk) hm (by rw[I.ok.blt];exact h1.keeps I.bk) ((h2 x hn).trans hv) h) hd
theorem xB(hg:Gl X x)(hm:X.mg x=some u)(r:RelV v u)(hd:(x==("__debug__":Str))=false:=by decide):PE X (.Name x pos) (tC v):=
 λ_ _ _ H _ I h=>eU I hg hm ⟨v,H,I,r,h⟩ hd
theorem qP(hg:Gl X x)(hm:X.mg x=none)(hv:bootBuiltins x=some u)(r:RelV v u)(hn:x≠ "__name__" :=by decide)(hd:(x==("__debug__":Str))=false:=by decide):PE X (.Name x pos) (tC v):=
 λ_ _ _ H _ I h=>fO I hg hm hv ⟨v,H,I,r,h⟩ hn hd
variable{a b:Expr}{ta tb:TE}{pos:Pos}
def tB(t:TE):TT:=λσ H Q=>t σ H λx H1=>∃c,x=.bl c/\Q c H1
theorem NC{e:Expr}{t:TE}(h:PE X e t)(he:∀whole,isTrue e X.env whole=(do let v <- whole;standAt e.pos;holding [v] (truthy v)):=by intro _;rfl):PT X e (tB t):=by
 intro ah s σ H Q I hw;refine isTrue_plain (bQ (h ah s σ H _ I hw) λv s1 ⟨x,H1,I1,r1,q1⟩=>?_) (he _)
 obtain⟨d,rfl,q⟩:=q1;cases r1;exact nE ⟨H1,I1,q⟩
variable{tA XX:TT}{rest:List Expr}
noncomputable def Y3(t u:TT):TT:=λσ H Q=>t σ H λc H1=>if c=true then u σ H1 Q else Q false H1
noncomputable def tOr(t u:TT):TT:=λσ H Q=>t σ H λc H1=>if c=true then Q true H1 else u σ H1 Q
def Y4(t:TT):TT:=λσ H Q=>t σ H λc H1=>Q (!c) H1
theorem pw_and1(ha:PT X a tA):PW X (.BoolOp .And [a] pos) tA:=by
 intro wh ah s σ H Q I h;refine isTrue_and (bQ (ha ah s σ H Q I h) λc s1 e=>?_)
 cases c with
 |true=>exact isTrue_and_nil e
 |false=>exact e
theorem pw_or1(ha:PT X a tA):PW X (.BoolOp .Or [a] pos) tA:=by
 intro wh ah s σ H Q I h;refine isTrue_or (bQ (ha ah s σ H Q I h) λc s1 e=>?_)
 cases c with
 |false=>exact isTrue_or_nil e
 |true=>exact e
theorem pw_and(ha:PT X a tA)(hb:PW X (.BoolOp .And (b::rest) pos) XX):PW X (.BoolOp .And (a::b::rest) pos) (Y3 tA XX):=by
 intro wh ah s σ H Q I h;refine isTrue_and (bQ (ha ah s σ H _ I h) λc s1 ⟨H1,I1,q1⟩=>?_)
 cases c with
 |true=>exact hb wh ah s1 σ H1 Q I1 q1
 |false=>exact⟨H1,I1,q1⟩
theorem pw_or(ha:PT X a tA)(hb:PW X (.BoolOp .Or (b::rest) pos) XX):PW X (.BoolOp .Or (a::b::rest) pos) (tOr tA XX):=by
 intro wh ah s σ H Q I h;refine isTrue_or (bQ (ha ah s σ H _ I h) λc s1 ⟨H1,I1,q1⟩=>?_)
 cases c with
 |true=>exact⟨H1,I1,q1⟩
 |false=>exact hb wh ah s1 σ H1 Q I1 q1
theorem By(ha:PT X a tA):PT X (.UnaryOp .Not a pos) (Y4 tA):=by intro ah s σ H Q I h;exact isTrue_not (ha ah s σ H (λc H1=>Q (!c) H1) I h)
noncomputable def UJ(ta tb:TE):TE:=λσ H Q=>ta σ H λx H1=>∃c,x=.bl c/\if c=true then tb σ H1 Q else Q (.bl false) H1
noncomputable def Y5(ta tb:TE):TE:=λσ H Q=>ta σ H λx H1=>∃c,x=.bl c/\if c=true then Q (.bl true) H1 else tb σ H1 Q
def UL(ta:TE):TE:=λσ H Q=>ta σ H λx H1=>∃c,x=.bl c/\Q (.bl (!c)) H1
theorem NK{op}(h:PE X a t):PE X (.BoolOp op [a] pos) t:=λah s σ H Q I hw=>BoolOp_one (h ah s σ H Q I hw)
theorem BG(ha:PE X a ta)(hb:PE X (.BoolOp .And (b::rest) pos) tb):PE X (.BoolOp .And (a::b::rest) pos) (UJ ta tb):=by
 intro ah s σ H Q I h;refine BoolOp_and (bQ (ha ah s σ H _ I h) λv s1 ⟨x,H1,I1,r1,q1⟩=>?_)
 obtain⟨c,rfl,q1⟩:=q1;cases r1;refine nE ?_;cases c with
 |true=>exact hb ah s1 σ H1 Q I1 q1
 |false=>exact⟨.bl false,H1,I1,rfl,q1⟩
theorem Mf(ha:PE X a ta)(hb:PE X (.BoolOp .Or (b::rest) pos) tb):PE X (.BoolOp .Or (a::b::rest) pos) (Y5 ta tb):=by
 intro ah s σ H Q I h;refine BoolOp_or (bQ (ha ah s σ H _ I h) λv s1 ⟨x,H1,I1,r1,q1⟩=>?_)
 obtain⟨c,rfl,q1⟩:=q1;cases r1;refine nE ?_;cases c with
 |false=>exact hb ah s1 σ H1 Q I1 q1
 |true=>exact⟨.bl true,H1,I1,rfl,q1⟩
theorem NP(ha:PE X a ta):PE X (.UnaryOp .Not a pos) (UL ta):=by
 intro ah s σ H Q I h;refine UnaryOp_ (bQ (ha ah s σ H _ I h) λv s1 ⟨x,H1,I1,r1,q1⟩=>?_)
 obtain⟨c,rfl,q1⟩:=q1;cases r1;exact not_of (nE ⟨.bl (!c),H1,I1,rfl,q1⟩)
noncomputable def tIf(t:TT)(ta tb:TE):TE:=λσ H Q=>t σ H λc H1=>if c=true then ta σ H1 Q else tb σ H1 Q
theorem sV{c:Expr}(hc:PT X c tA)(ha:PE X a ta)(hb:PE X b tb):PE X (.IfExp c a b pos) (tIf tA ta tb):=by
 intro ah s σ H Q I h;refine wpAny_IfExp (bQ (hc ah s σ H _ I h) λd s1 ⟨H1,I1,q1⟩=>?_)
 cases d with
 |true=>exact ha ah s1 σ H1 Q I1 q1
 |false=>exact hb ah s1 σ H1 Q I1 q1
end
def bX(K:Frag)(H:Hp)(a:Addr)(xs:List V):Prop:=
 Rd H a (.lst xs)\/
  ∃(o:Obj) (its:Array Value) (n:Nat),K.lookup a=some o/\o.cls=.type "list" /\o.dict=none/\o.data=.seq its n/\its.size<=sizeLine/\Vals xs its.toList
def gi(K:Frag)(H:Hp)(a:Addr)(xs:List V):Prop:=
 Rd H a (.tup xs)\/
  ∃(o:Obj) (its:Array Value) (n:Nat),K.lookup a=some o/\o.cls=.type "tuple" /\o.data=.seq its n/\its.size<=sizeLine/\Vals xs its.toList
noncomputable def Y6:Value->Option V
 |.none=>some .non
 |.bool b=>some (.bl b)
 |.int i _=>some (.int i)
 |.str x _=>some (.str x)
 |.bytes b _=>some (.Nu b)
 |.float b _=>some (.flt b)
 |.ref a=>some (.ref a)
 |.type n=>some (.ty n)
 |_=>none
theorem RelV.abs(r:RelV x u):Y6 u=some x:=by
 cases x with
 |non=>cases r;rfl
 |bl _=>cases r;rfl
 |int _=>obtain⟨t,rfl⟩:=r;rfl
 |str _=>obtain⟨t,rfl⟩:=r;rfl
 |Nu _=>obtain⟨t,rfl⟩:=r;rfl
 |flt _=>obtain⟨t,rfl⟩:=r;rfl
 |ref _=>cases r;rfl
 |ty _=>cases r;rfl
theorem RelV.inj{x y:V}{u:Value}(r:RelV x u)(q:RelV y u):x=y:=n0 (r.abs.symm.trans q.abs)
theorem Vals.inj:∀{xs ys:List V}{us:List Value},Vals xs us->Vals ys us->xs=ys
 |_,_,_,.nil,.nil=>rfl
 |_,_,_,.cons r t,.cons r' t'=>by rw[r.inj r',Vals.inj t t']
section
variable{X:Cx}{ah:List (Addr×Obj)}{σ:St}{H:Hp}{s:Shared}{a:Addr}{xs ys:List V}
theorem bX.of{K:Frag}(h:H a=some (.lst xs)):bX K H a xs:=.inl (.inl h)
theorem Inv.list(I:Inv X ah σ H s)(h:bX X.K H a xs):∃its:List Value,Vals xs its/\PlainL s.heap a its.toArray/\xs.length<=sizeLine:=by
 rcases h with h |⟨o,its,n,hk,hc,hd,hs,hz,r⟩
 . obtain⟨z,its,n,r,e⟩:=h.ok I.hok;exact⟨its,r,⟨_,n,e,rfl,rfl,rfl⟩,z⟩
 .
  refine⟨its.toList,r,⟨o,n,I.lT a o hk,hc,hd,by simpa using hs⟩,?_⟩
  have e:=r.length;simp only[mM]at e;lia
theorem Inv.tuple(I:Inv X ah σ H s)(h:gi X.K H a xs):∃its:List Value,Vals xs its/\IsTup s.heap a its.toArray/\xs.length<=sizeLine:=by
 rcases h with h |⟨o,its,n,hk,hc,hs,hz,r⟩
 . obtain⟨z,its,r,p⟩:=h.ok I.hok;exact⟨its,r,p.tup,z⟩
 .
  refine⟨its.toList,r,⟨o,I.lT a o hk,hc,n,by simpa using hs⟩,?_⟩
  have e:=r.length;simp only[mM]at e;lia
theorem Inv.sW(I:Inv X ah σ H s)(h:bX X.K H a xs)(h':bX X.K H a ys):xs=ys:=by
 obtain⟨its,r,⟨o,n,e,_,_,d⟩,_⟩:=I.list h;obtain⟨its',r',⟨o',n',e',_,_,d'⟩,_⟩:=I.list h';rw[e]at e';cases e';rw[d]at d';injection d' with d1 _;have:its=its':=by simpa using congrArg Array.toList d1
 subst this;exact r.inj r'
theorem Inv.pS(I:Inv X ah σ H s)(h:gi X.K H a xs)(h':gi X.K H a ys):xs=ys:=by
 obtain⟨its,r,⟨o,e,_,n,d⟩,_⟩:=I.tuple h;obtain⟨its',r',⟨o',e',_,n',d'⟩,_⟩:=I.tuple h';rw[e]at e';cases e';rw[d]at d';injection d' with d1 _;have:its=its':=by simpa using congrArg Array.toList d1
 subst this;exact r.inj r'
end
abbrev Cx.wish(X:Cx)(E:Value->Shared->Prop):Cx:={ X with xe:=E}
abbrev Cx.kZ(X:Cx):Cx:=X.wish λ_ _=>False
theorem Cx.Ok.wish{X:Cx}(ok:X.Ok)(E:Value->Shared->Prop):(X.wish E).Ok:=
 ⟨ok.mod,ok.kind,ok.glob,ok.blt,ok.above,ok.inj,ok.has,ok.Nx,ok.hd,ok.frames,ok.stk,ok.TJ,ok.bs,ok.Bv,ok.sU,ok.vq,ok.jE,ok.HS⟩
theorem Cx.Ok.cS{X:Cx}{E:Value->Shared->Prop}(ok:(X.wish E).Ok):X.Ok:=
 ⟨ok.mod,ok.kind,ok.glob,ok.blt,ok.above,ok.inj,ok.has,ok.Nx,ok.hd,ok.frames,ok.stk,ok.TJ,ok.bs,ok.Bv,ok.sU,ok.vq,ok.jE,ok.HS⟩
section
variable{X:Cx}{ah:List (Addr×Obj)}{σ:St}{H:Hp}{s:Shared}{E:Value->Shared->Prop}
theorem Inv.wish(I:Inv X ah σ H s)(E:Value->Shared->Prop):Inv (X.wish E) ah σ H s:=⟨I.ok.wish E,I.os,I.bare,I.base,I.loc,I.cell,I.free,I.dJ,I.pin,I.hok,I.len⟩
theorem Inv.cS(I:Inv (X.wish E) ah σ H s):Inv X ah σ H s:=⟨I.ok.cS,I.os,I.bare,I.base,I.loc,I.cell,I.free,I.dJ,I.pin,I.hok,I.len⟩
theorem SP.cS(h:SP (X.wish E) ah D f s'):SP X ah D f s':=by
 cases f with
 |next=>obtain⟨σ',H',I,q⟩:=h;exact⟨σ',H',I.cS,q⟩
 |brk=>obtain⟨σ',H',I,q⟩:=h;exact⟨σ',H',I.cS,q⟩
 |cont=>obtain⟨σ',H',I,q⟩:=h;exact⟨σ',H',I.cS,q⟩
 |ret u=>obtain⟨v,σ',H',I,r,q⟩:=h;exact⟨v,σ',H',I.cS,r,q⟩
theorem PE.kZ(h:PE X.kZ e t):PE X e t:=λah s σ H Q I hw=>
 lS (h ah s σ H Q (I.wish _) hw) (λ_ _ ⟨v,H',I',r,q⟩=>⟨v,H',I'.cS,r,q⟩) λ_ _ z=>False.elim z
theorem PT.kZ(h:PT X.kZ e t):PT X e t:=λah s σ H Q I hw=>
 lS (h ah s σ H Q (I.wish _) hw) (λ_ _ ⟨H',I',q⟩=>⟨H',I'.cS,q⟩) λ_ _ z=>False.elim z
theorem qO.kZ{st:List Stmt}{t:TS}(h:qO X.kZ st t):qO X st t:=λah s σ H D I hw=>
 lS (h ah s σ H D (I.wish _) hw) (λ_ _ q=>q.cS) λ_ _ z=>False.elim z
end
section
variable{X:Cx}{st:Stmt}{rest:List Stmt}{t u:TS}{e:Expr}{te:TE}{pos:Pos}
def UT:TS:=λD σ H=>D.nx σ H
def UW(t u:TS):TS:=λD σ H=>t { D with nx:=u D} σ H
theorem HX:qO X [] UT:=λ_ _ σ H _ I h=>wpAny_execs_nil ⟨σ,H,I,h⟩
theorem dM(h1:PS X st t)(h2:qO X rest u):qO X (st::rest) (UW t u):=by
 intro ah s σ H D I h;refine AQ (bQ (h1 ah s σ H { D with nx:=u D} I h) λf s1 q=>?_)
 cases f with
 |next=>obtain⟨σ',H',I',q⟩:=q;exact h2 ah s1 σ' H' D I' q
 |ret v=>exact q
 |brk=>exact q
 |cont=>exact q
theorem xD(h1:PS X st t):qO X [st] t:=by
 intro ah s σ H D I h;refine AQ (bQ (h1 ah s σ H D I h) λf s1 q=>?_)
 cases f with
 |next=>exact wpAny_execs_nil q
 |ret v=>exact q
 |brk=>exact q
 |cont=>exact q
theorem Inv.quiet{ah:List (Addr×Obj)}{σ:St}{H:Hp}{s:Shared}(I:Inv X ah σ H s):interactive X.env=false:=by simp[interactive,I.ok.kind]
def U0(te:TE):TS:=λD σ H=>te σ H λ_ H1=>D.nx σ H1
theorem lU(he:PE X e te)(hs:swapsWith e none pos.line X.env=pure false:=by rfl):PS X (.Expr e pos) (U0 te):=by intro ah s σ H D I h;exact wpAny_Expr_any (bQ (he ah s σ H _ I h) λv s1 ⟨x,H1,I1,r1,q1⟩=>⟨σ,H1,I1,q1⟩) I.quiet hs
def Y7(te:TE):TS:=λD σ H=>te σ H D.rt
theorem qQ(he:PE X e te):PS X (.Return (some e) pos) (Y7 te):=by intro ah s σ H D I h;exact wpAny_Return_some (bQ (he ah s σ H _ I h) λv s1 ⟨x,H1,I1,r1,q1⟩=>⟨x,σ,H1,I1,r1,q1⟩)
noncomputable def Y8(c:TT)(t u:TS):TS:=λD σ H=>c σ H λb H1=>if b=true then t D σ H1 else u D σ H1
theorem mK{c:Expr}{a b:List Stmt}{tc:TT}(hc:PT X c tc)(ha:qO X a t)(hb:qO X b u):PS X (.If c a b pos) (Y8 tc t u):=by
 intro ah s σ H D I h;refine wpAny_If (bQ (hc ah s σ H _ I h) λd s1 ⟨H1,I1,q1⟩=>?_)
 cases d with
 |true=>exact ha ah s1 σ H1 D I1 q1
 |false=>exact hb ah s1 σ H1 D I1 q1
def NQ:TS:=λ_ _ _=>False
theorem bf:qO X jB NQ:=λ_ _ _ _ _ _ h=>h.elim
end
abbrev TG:=V->St->Hp->(St->Hp->Prop)->Prop
abbrev Mg:=List V->St->Hp->(St->Hp->Prop)->Prop
def PG(X:Cx)(target:Expr)(t:TG):Prop:=
 ∀(ah:List (Addr×Obj)) (s:Shared) (σ:St) (H:Hp) (v:V) (u:Value) (Q:St->Hp->Prop),Inv X ah σ H s->RelV v u->t v σ H Q->
  wpAny (model X.prog X.w) X.A (assign target X.env u) (λ_ s'=>∃σ' H',Inv X ah σ' H' s'/\Q σ' H') X.xe s
def TL(X:Cx)(ts:List Expr)(t:Mg):Prop:=
 ∀(ah:List (Addr×Obj)) (s:Shared) (σ:St) (H:Hp) (vs:List V) (us:List Value) (Q:St->Hp->Prop),Inv X ah σ H s->Vals vs us->t vs σ H Q->
  wpAny (model X.prog X.w) X.A (assignInOrder ((assignEach ts X.env).map (·.2)) us) (λ_ s'=>∃σ' H',Inv X ah σ' H' s'/\Q σ' H') X.xe s
abbrev NR:=V->V->V->Hp->(Hp->Prop)->Prop
def U1(X:Cx)(t:NR):Prop:=
 ∀(ah:List (Addr×Obj)) (s:Shared) (σ:St) (H:Hp) (o i v:V) (ov iv u:Value) (Q:Hp->Prop),Inv X ah σ H s->RelV o ov->RelV i iv->RelV v u->t o i v H Q->
  wpAny (model X.prog X.w) X.A (setItem ov iv u) (λ_ s'=>∃H',Inv X ah σ H' s'/\Q H') X.xe s
section
variable{X:Cx}{pos:Pos}
def sX(i:Nat):TG:=λv σ H Q=>Q (σ.set i (some v)) H
theorem iE(hN:X.N.Nodup)(hi:X.N[i]?=some x)(hx:Loc X.env.scope x)(hf:X.fn x=true\/X.env.scope.names.lookup x=some .local:=by first |exact .inl rfl |exact .inr rfl |assumption):PG X (.Name x pos) (sX i):=by intro ah s σ H v u Q I r h;exact wpAny_assign_Name (gS I hN hi hx r (λs' I'=>⟨_,H,I',h⟩) hf)
def Y9:Mg:=λvs σ H Q=>vs=[]/\Q σ H
noncomputable def U3(t:TG)(u:Mg):Mg:=λvs σ H Q=>∃v r,vs=v::r/\t v σ H λσ' H'=>u r σ' H' Q
theorem xE:TL X [] Y9:=by intro ah s σ H vs us Q I r h;obtain⟨e,h⟩:=h;subst e;cases r;exact assignInOrder_nil ⟨σ,H,I,h⟩
theorem mL{e:Expr}{es:List Expr}{t:TG}{u:Mg}(h1:PG X e t)(h2:TL X es u)
  (hs:(assignEach (e::es) X.env).map (·.2)=assign e X.env::(assignEach es X.env).map (·.2):=by rfl):TL X (e::es) (U3 t u):=by
 intro ah s σ H vs us Q I r h;obtain⟨v,vr,e1,h⟩:=h;subst e1;cases r with
 |cons r rr=>
  rw[hs];refine assignInOrder_cons (bQ (h1 ah s σ H _ _ _ I r h) λ_ s1 ⟨σ1,H1,I1,q1⟩=>?_)
  exact h2 ah s1 σ1 H1 _ _ Q I1 rr q1
def Za(K:Frag)(n:Nat)(t:Mg):TG:=λv σ H Q=>∃a xs,v=.ref a/\gi K H a xs/\xs.length=n/\t xs σ H Q
theorem BJ(hc:X.calm=true)(h:TL X es t)
  (hn:(assignEach es X.env).length=n:=by rfl) (dj:(assignEach es X.env).findIdx? (·.1)=none:=by rfl):PG X (.Tuple es k pos) (Za X.K n t):=by
 intro ah s σ H v u Q I r hw;obtain⟨a,xs,e1,hq,hl,hw⟩:=hw;subst e1;cases r;obtain⟨its,rv,ht,hz⟩:=I.tuple hq;refine assign_Tuple_tuple (I.ok.hd hc) ht (by simp[hn,<- hl,rv.length]) dj λh' hx=>?_
 have I1:Inv X ah σ H { s with heap:=h'}:=I.kept (t':=s.toks) λb o e=>hx b o (i5 (eJ e)) e
 exact h ah _ σ H xs _ Q I1 (by simpa using rv) hw
noncomputable def Zb(to ti:TE)(t:NR):TG:=λv σ H Q=>to σ H λo H1=>ti σ H1 λi H2=>t o i v H2 λH3=>Q σ H3
theorem NT{o i:Expr}{to ti:TE}{t:NR}(ho:PE X o to)(hi:PE X i ti)(hs:U1 X t)
  (ha:∀v,assign (.Subscript o i pos) X.env v=(do
   let ov <- holding [v] (eval o X.env)
   let iv <- holding [v,ov] (eval i X.env)
   standAt pos
   holding [v,ov,iv] (setItem ov iv v)
   release [v,ov,iv] []):=by intro _;rfl):PG X (.Subscript o i pos) (Zb to ti t):=by
 intro ah s σ H v u Q I r h;rw[ha];refine aS (mB (bQ (ho ah s σ H _ I h) λov s1 ⟨x,H1,I1,r1,q1⟩=>?_))
 refine aS (mB (bQ (hi ah s1 σ H1 _ I1 q1) λiv s2 ⟨y,H2,I2,r2,q2⟩=>?_))
 refine aS (B0 (aS (mB (bQ (hs ah s2 σ H2 x y v ov iv u _ I2 r1 r2 r q2) λ_ s3 ⟨H3,I3,q3⟩=>?_))))
 exact wpAny_release ⟨σ,H3,I3,q3⟩
def NX(te:TE)(g:TG):TS:=λD σ H=>te σ H λx H1=>g x σ H1 D.nx
theorem BK{tg e:Expr}{te:TE}{g:TG}(he:PE X e te)(hg:PG X tg g)(hs:swapsWithSole [tg] e pos.line X.env=pure false:=by rfl)(hw:swappedStores [tg] e X.env=pure none:=by rfl)
  (h1:(assignEach [tg] X.env).map (·.2)=[assign tg X.env]:=by rfl):PS X (.Assign [tg] e pos) (NX te g):=by
 intro ah s σ H D I h;refine wpAny_Assign_stores (bQ (he ah s σ H _ I h) λv s1 ⟨x,H1,I1,r1,q1⟩=>?_) hs hw
 rw[h1];exact bQ (hg ah s1 σ H1 x v _ I1 r1 q1) λ_ s2 q=>q
theorem mO{i:Nat}{x:Str}{e:Expr}{te:TE}{pos':Pos}(hN:X.N.Nodup)(hi:X.N[i]?=some x)(hx:Loc X.env.scope x)(he:PE X e te)(hs:swapsWith e (some (.Name x pos')) pos.line X.env=pure false:=by rfl)(hf:X.fn x=true\/X.env.scope.names.lookup x=some .local:=by first |exact .inl rfl |exact .inr rfl |assumption) :
  PS X (.Assign [.Name x pos'] e pos) (NX te (sX i)):=by
 intro ah s σ H D I h;refine wpAny_Assign_Name (bQ (he ah s σ H _ I h) λv s1 ⟨y,H1,I1,r1,q1⟩=>?_) hs
 exact gS I1 hN hi hx r1 (λs2 I2=>⟨_,H1,I2,q1⟩) hf
noncomputable def Zc(i j:Nat)(ta:TA):TS:=λD σ H=>ta σ H λvs H1=>∃v w,vs=[v,w]/\D.nx ((σ.set i (some v)).set j (some w)) H1
theorem NZ{i j:Nat}{x y:Str}{a b:Expr}{ta:TA}{px py pt:Pos}{kt k2 xF}(hc:X.calm=true)(hN:X.N.Nodup)(hi:X.N[i]?=some x)(hj:X.N[j]?=some y)(hij:i≠j)
  (hx:X.env.scope.names.lookup x=some .local) (hy:X.env.scope.names.lookup y=some .local) (ha:PA X [a,b] ta)
  (hw:swappedStores [.Tuple [.Name x px,.Name y py] kt pt] (.Tuple [a,b] k2 xF) X.env=pure (some [x,y]))
  (hs:swapsWithSole [.Tuple [.Name x px,.Name y py] kt pt] (.Tuple [a,b] k2 xF) pos.line X.env=pure false:=by rfl) :
  PS X (.Assign [.Tuple [.Name x px,.Name y py] kt pt] (.Tuple [a,b] k2 xF) pos) (Zc i j ta):=by
 intro ah s σ H D I h;rw[exec_Assign_arm];refine aS (B0 ?_);rw[hs];refine aS (dL ?_);rw[fR ⋯];refine aS (Tuple_ (bQ (ha _ ah s σ H _ I h) λus s1 ⟨vs,H1,I1,r1,q1⟩=>?_))
 obtain⟨v,w,e1,q1⟩:=q1;subst e1;obtain⟨u1,u2,rfl,rv,rw'⟩:∃u1 u2,us=[u1,u2]/\RelV v u1/\RelV w u2:=by
  cases r1 with
  |cons p q=>
   cases q with
   |cons p' q'=>cases q';exact⟨_,_,rfl,p,p'⟩
 refine l7 ?_ (by show 2<=sizeLine;decide)
 have I2:Inv X ah σ H1 { s1 with heap:=s1.heap.push { cls:=.type "tuple",data:=.seq [u1,u2].toArray}}:=I1.kept (t':=s1.toks) λb o e=>bP _ e
 rw[hw];refine aS (dL ?_);show wpAny (model X.prog X.w) X.A (do rule "assign.swapped-stores";let items <- unpackItems (.ref s1⁻¹) 2 none;assignInOrder [λv=>bindName X.env y v,λv=>bindName X.env x v] items.reverse;pure Flow.next) _ _ _
 refine aS (wpAny_rule (aS (unpackItems_tuple (items:=#[u1,u2]) (I.ok.hd hc) (IsTup.new s1.heap _) λh' hx'=>?_)))
 have I3:=I2.kept (h':=h') (t':=s1.toks) λb o e=>hx' b o (i5 (eJ e)) e
 show wpAny _ _ (assignInOrder [λv=>bindName X.env y v,λv=>bindName X.env x v] [u2,u1] >>= λ_=>pure Flow.next) _ _ _
 refine aS (assignInOrder_cons (wpAny_bindName (gS I3 hN hj (.inl hy) rw' (λs2 I4=>?_) (.inr hy))))
 refine assignInOrder_cons (wpAny_bindName (gS I4 hN hi (.inl hx) rv (λs3 I5=>assignInOrder_nil (dL ?_)) (.inr hx)))
 rw[List.set_comm _ _ (nN hij)]at I5;exact⟨_,H1,I5,q1⟩
end
section
variable{X:Cx}{pos:Pos}
noncomputable def N1(c:TT)(tb:TS):TS:=λD σ H=>∃W:Nat->St->Hp->Prop,(∃m,W m σ H)/\∀m σ H,W m σ H->
 c σ H λb H1=>if b=true then ∃N:St->Hp->Prop,(∀σ' H',N σ' H'->∃m',m'<m/\W m' σ' H')/\tb { D with nx:=N,ct:=N,bk:=D.nx} σ H1 else D.nx σ H1
theorem BL{c:Expr}{body:List Stmt}{tc:TT}{tb:TS}(hp:PassesOwn (model X.prog X.w) X.A X.env X.xe)(hc:PT X c tc)(hb:qO X body tb):PS X (.While c body [] pos) (N1 tc tb):=by
 intro ah s σ H D I h;obtain⟨W,⟨m0,w0⟩,turn⟩:=h;refine wpAny_While (codeAny_whileLoop (λn s'=>∃σ' H',Inv X ah σ' H' s'/\W n σ' H') ?_ m0 ⟨σ,H,I,w0⟩)
 rintro n s1 ⟨σ1,H1,I1,w1⟩;refine yB hp (bQ (hc ah s1 σ1 H1 _ I1 (turn n σ1 H1 w1)) λb s2 ⟨H2,I2,q2⟩=>?_)
 cases b with
 |true=>
  obtain⟨N,hN,q2⟩:=q2;rw[fN rfl];refine yB hp (bQ (hb ah s2 σ1 H2 _ I2 q2) λf s3 q3=>?_)
  cases f with
  |next=>obtain⟨σ3,H3,I3,n3⟩:=q3;obtain⟨m',hm,w3⟩:=hN σ3 H3 n3;exact⟨m',hm,σ3,H3,I3,w3⟩
  |cont=>obtain⟨σ3,H3,I3,n3⟩:=q3;obtain⟨m',hm,w3⟩:=hN σ3 H3 n3;exact⟨m',hm,σ3,H3,I3,w3⟩
  |brk=>exact q3
  |ret v=>exact q3
 |false=>rw[fR i7];exact wpAny_execs_nil ⟨σ1,H2,I2,q2⟩
end
structure It where
 go:Nat->Hp->Prop
 XZ:Nat->Hp->V->Hp->Prop
 stop:Nat->Hp->Prop
def j5(X:Cx)(ah:List (Addr×Obj))(H:Hp)(b:Addr):Prop:=
 H b=none/\b≠X.env.locals/\b∉X.fs/\(b∈X.ex\/X.s₀⁻¹<=b)/\(∀x c,X.env.cells.lookup x=some c->c≠b)/\∀p∈X.pn++ah,p.1≠b
theorem Inv.BP{X:Cx}{ah:List (Addr×Obj)}{σ:St}{H H':Hp}{s:Shared}{b:Addr}(I:Inv X ah σ H s)(hb:s⁻¹<=b)(hn:H' b=none):j5 X ah H' b:=by
 refine⟨hn,y6 (eA I.lt hb),I.YZ hb,.inr (l6 I.sz hb),λx c e z=>?_,λp hp z=>?_⟩
 . obtain⟨v,q⟩:=I.cell x c e;exact absurd (eA q.lt (by rw[z];exact hb)) (o6 _)
 . exact absurd (eA (eJ (I.pin p hp).1) (by rw[z];exact hb)) (o6 _)
structure Turn(P:Program)(w:World)(K:Frag)(tg:Expr)(J:It)(fp:List Addr)(it:Addr)(tn:Nat->Heap->Prop):Prop where
 mem:it∈fp
 obj:∀i h,tn i h->∀b∈fp,∃o,h.get? b=some o/\∀v,o.data≠.cell v
 keep:∀i h h',tn i h->(∀b∈fp,∀o,h.get? b=some o->h'.get? b=some o)->tn i h'
 item:∀(X:Cx),X.prog=P->X.w=w->X.K=K->X.calm=true->∀(i:Nat) (ah:List (Addr×Obj)) (s:Shared) (σ:St) (H:Hp) (E:Value->Shared->Prop),Inv X ah σ H s->(∀b∈fp,j5 X ah H b)->tn i s.heap->J.go i H->
  wpAny (model P w) X.A (pyNext (.ref it)) (λr s1=>∃u,r=some u/\
   wpAny (model P w) X.A (letOwnedTupleGo tg (.ref it) u) (λ_ s2=>∃x H',Inv X ah σ H' s2/\RelV x u/\J.XZ i H x H'/\tn (i+1) s2.heap/\∀b∈fp,H' b=none) E s1) E s
 done:∀(X:Cx),X.prog=P->X.w=w->X.K=K->X.calm=true->∀(i:Nat) (ah:List (Addr×Obj)) (s:Shared) (σ:St) (H:Hp) (E:Value->Shared->Prop),Inv X ah σ H s->(∀b∈fp,j5 X ah H b)->tn i s.heap->J.stop i H->
  wpAny (model P w) X.A (pyNext (.ref it)) (λr s1=>r=none/\Inv X ah σ H s1) E s
 self:∀(A:Around) (i:Nat) (s:Shared) (Q:Value->Shared->Prop) (E:Value->Shared->Prop),tn i s.heap->Q (.ref it) s->wpAny (model P w) A (pyIter (.ref it)) Q E s
abbrev TI:=St->Hp->(It->Hp->Prop)->Prop
def PIE(X:Cx)(ah:List (Addr×Obj))(σ:St)(tg:Expr)(R:It->Hp->Prop)(itv:Value)(s2:Shared):Prop:=
 ∃(it:Addr) (fp:List Addr) (tn:Nat->Heap->Prop) (J:It) (H':Hp),itv=.ref it/\Inv X ah σ H' s2/\Turn X.prog X.w X.K tg J fp it tn/\tn 0 s2.heap/\(∀b∈fp,j5 X ah H' b)/\R J H'
def PI(X:Cx)(tg iter:Expr)(wi:TI):Prop:=
 ∀(ah:List (Addr×Obj)) (s:Shared) (σ:St) (H:Hp) (R:It->Hp->Prop),Inv X ah σ H s->wi σ H R->
  wpAny (model X.prog X.w) X.A (eval iter X.env) (λv s1=>wpAny (model X.prog X.w) X.A (pyIter v) (PIE X ah σ tg R) X.xe s1) X.xe s
theorem BR(ho:s.heap.get? it=some o)(hc:o.cls=.type n)(hd:o.data=.fields vs)
  (hn:["enumerate", "zip", "dict_itemiterator", "dict_reverseitemiterator", "odict_iterator", "itertools.zip_longest", "itertools.pairwise"].contains n=false) (hQ:Q () s):wpAny M A (letOwnedTupleGo tg (.ref it) u) Q E s:=by
 unfold letOwnedTupleGo;cases tg <;> first
  |exact dL hQ
  | (cases u <;> first
    |exact dL hQ
    | (refine aS (wpAny_load ho ?_)
       rw[hc,hd];show wpAny M A (if (["enumerate", "zip", "dict_itemiterator", "dict_reverseitemiterator", "odict_iterator", "itertools.zip_longest", "itertools.pairwise"].contains n&&vs[0]?==some (rawInt _))=true then _ else _) Q E s
       rw[fR (by intro h;rw[hn,CA]at h;cases h)]
       exact dL hQ))
def Itl(K:Frag)(a:Addr):It:=
 ⟨λi H=>∃xs x,bX K H a xs/\xs[i]?=some x,λi H x H'=>H'=H/\∀xs,bX K H a xs->xs[i]?=some x,λi H=>∃xs,bX K H a xs/\xs.length<=i⟩
def Itt(K:Frag)(a:Addr):It:=
 ⟨λi H=>∃xs x,gi K H a xs/\xs[i]?=some x,λi H x H'=>H'=H/\∀xs,gi K H a xs->xs[i]?=some x,λi H=>∃xs,gi K H a xs/\xs.length<=i⟩
noncomputable def N2(lo:Int)(n:Nat):It:=⟨λi _=>i<n,λi H x H'=>H'=H/\x=.int (lo+i),λi _=>n<=i⟩
theorem yX{P:Program}{w:World}{K:Frag}{tg:Expr}(a it:Addr):Turn P w K tg (Itl K a) [it] it (λi h=>h.IsListIter it a i) where
 mem:=by simp
 obj:=λi h st b hb=>by
  have e:b=it:=by simpa using hb
  subst e;obtain⟨o,e,c,d⟩:=st;exact⟨o,e,λv z=>by rw[d]at z;cases z⟩
 keep:=λi h h' st k=>st.at λo e=>k it ⋯ o e
 item:=by
  intro X hP hw hK hc i ah s σ H E I hf st hg;subst hP hw hK;obtain⟨xs,x,hq,hx⟩:=hg;obtain⟨its,rv,p,hz⟩:=I.list hq;obtain⟨u,hu,ru⟩:=rv.get hx;obtain⟨f0,f1,f2,f3,f4,f5⟩:=hf it ⋯;refine wpAny_pyNext_list_item st p.isList (x:=u) (by simpa using hu) λh' st' sb=>?_
  have I1:Inv X ah σ H { s with heap:=h'}:=I.turned (t':=s.toks) (λb o hb e=>(sb.2 b hb).trans e) f0 f1 f3 f4 f5
  obtain⟨o,e,c,d⟩:=id st';exact⟨u,rfl,BR (s:={ s with heap:=h'}) e c d ⋯ ⟨x,H,I1,ru,⟨rfl,λys hy=>by rw[I.sW hy hq];exact hx⟩,st',λb hb=>(hf b hb).1⟩⟩
 done:=by intro X hP hw hK hc i ah s σ H E I hf st hg;subst hP hw hK;obtain⟨xs,hq,hx⟩:=hg;obtain⟨its,rv,p,hz⟩:=I.list hq;obtain⟨f0,f1,f2,f3,f4,f5⟩:=hf it ⋯;have hl:=rv.length;exact wpAny_pyNext_list_end (I.ok.hd hc) st p.isList (by simp;lia) λh' eb=>⟨rfl,I.turned (t':=s.toks) (λb o hb e=>eb b o hb e) f0 f1 f3 f4 f5⟩
 self:=λ_ _ _ _ _ st h=>wpAny_pyIter_listiter st h
theorem vB{P:Program}{w:World}{K:Frag}{tg:Expr}(a it:Addr):Turn P w K tg (Itt K a) [it] it (λi h=>h.IsTupleIter it a i) where
 mem:=by simp
 obj:=λi h st b hb=>by
  have e:b=it:=by simpa using hb
  subst e;obtain⟨o,e,c,d⟩:=st;exact⟨o,e,λv z=>by rw[d]at z;cases z⟩
 keep:=λi h h' st k=>st.at λo e=>k it ⋯ o e
 item:=by
  intro X hP hw hK hc i ah s σ H E I hf st hg;subst hP hw hK;obtain⟨xs,x,hq,hx⟩:=hg;obtain⟨its,rv,p,hz⟩:=I.tuple hq;obtain⟨u,hu,ru⟩:=rv.get hx;obtain⟨f0,f1,f2,f3,f4,f5⟩:=hf it ⋯;refine wpAny_pyNext_tuple_item st (show s.heap.IsTuple a its.toArray from p) (x:=u) (by simpa using hu) λh' st' sb=>?_
  have I1:Inv X ah σ H { s with heap:=h'}:=I.turned (t':=s.toks) (λb o hb e=>(sb.2 b hb).trans e) f0 f1 f3 f4 f5
  obtain⟨o,e,c,d⟩:=id st';exact⟨u,rfl,BR (s:={ s with heap:=h'}) e c d ⋯ ⟨x,H,I1,ru,⟨rfl,λys hy=>by rw[I.pS hy hq];exact hx⟩,st',λb hb=>(hf b hb).1⟩⟩
 done:=by intro X hP hw hK hc i ah s σ H E I hf st hg;subst hP hw hK;obtain⟨xs,hq,hx⟩:=hg;obtain⟨its,rv,p,hz⟩:=I.tuple hq;obtain⟨f0,f1,f2,f3,f4,f5⟩:=hf it ⋯;have hl:=rv.length;exact wpAny_pyNext_tuple_end (I.ok.hd hc) st (show s.heap.IsTuple a its.toArray from p) (by simp;lia) λh' eb=>⟨rfl,I.turned (t':=s.toks) (λb o hb e=>eb b o hb e) f0 f1 f3 f4 f5⟩
 self:=λ_ _ _ _ _ st h=>wpAny_pyIter_tupleiter st h
theorem vC{P:Program}{w:World}{K:Frag}{tg:Expr}(it:Addr)(lo:Int)(n:Nat):Turn P w K tg (N2 lo n) [it] it (λi h=>IsRangeIter h it (lo+(i:Nat) * 1) ((n:Int) - (i:Nat)) 1) where
 mem:=by simp
 obj:=λi h st b hb=>by
  have e:b=it:=by simpa using hb
  subst e;exact⟨_,st,λv z=>by
   have z':Data.fields _=Data.cell v:=z;cases z'⟩
 keep:=λi h h' st k=>k it ⋯ _ st
 item:=by
  intro X hP hw hK hc i ah s σ H E I hf st hg;subst hP hw hK;obtain⟨f0,f1,f2,f3,f4,f5⟩:=hf it ⋯;have W:=Walks.range (prog:=X.prog) (w:=X.w) (I.ok.hd hc) it lo 1 n;refine W.item i s _ _ hg st λv h' tk hv st' kk=>?_
  obtain⟨t,rfl⟩:=hv;have I1:Inv X ah σ H { s with heap:=h',toks:=tk}:=I.turned (λb o hb e=>kk b o (by simpa using hb) e) f0 f1 f3 f4 f5
  refine⟨_,rfl,BR (s:={ s with heap:=h',toks:=tk}) (n:= "range_iterator") st' rfl rfl ⋯ ⟨.int (lo+i),H,I1,⟨t,?_⟩,⟨rfl,rfl⟩,st',λb hb=>(hf b hb).1⟩⟩
  rw[Int.mul_one]
 done:=by intro X hP hw hK hc i ah s σ H E I hf st hg;subst hP hw hK;obtain⟨f0,f1,f2,f3,f4,f5⟩:=hf it ⋯;exact wpAny_pyNext_range_end (I.ok.hd hc) st (by have:n<=i:=hg;lia) λh' eb=>⟨rfl,I.turned (t':=s.toks) (λb o hb e=>eb b o hb e) f0 f1 f3 f4 f5⟩
 self:=λ_ _ _ _ _ st h=>wpAny_pyIter_rangeiter st h
section
variable{X:Cx}{tg:Expr}
def Mh(K:Frag)(tl:TE):TI:=λσ H R=>tl σ H λx H1=>∃a,x=.ref a/\(∃xs,bX K H1 a xs)/\R (Itl K a) H1
def Zd(K:Frag)(tl:TE):TI:=λσ H R=>tl σ H λx H1=>∃a,x=.ref a/\(∃xs,gi K H1 a xs)/\R (Itt K a) H1
theorem qR{l:Expr}{tl:TE}(hl:PE X l tl):PI X tg l (Mh X.K tl):=by
 intro ah s σ H R I h;refine bQ (hl ah s σ H _ I h) λv s1 ⟨x,H1,I1,r1,q1⟩=>?_
 obtain⟨a,e,⟨xs,hq⟩,q⟩:=q1;subst e;cases r1;obtain⟨its,rv,p,hz⟩:=I1.list hq;refine wpAny_pyIter_list p.isList ?_;refine⟨s1⁻¹,[s1⁻¹],_,_,H1,rfl,I1.kept (t':=s1.toks) λb o e=>bP _ e,yX a _,⟨_,eD _ rfl,rfl,rfl⟩,λb hb=>?_,q⟩
 have e:b=s1⁻¹:=by simpa using hb
 subst e;exact I1.BP (d5 _) (I1.hok.fresh (d5 _))
theorem BV{l:Expr}{tl:TE}(hl:PE X l tl):PI X tg l (Zd X.K tl):=by
 intro ah s σ H R I h;refine bQ (hl ah s σ H _ I h) λv s1 ⟨x,H1,I1,r1,q1⟩=>?_
 obtain⟨a,e,⟨xs,hq⟩,q⟩:=q1;subst e;cases r1;obtain⟨its,rv,p,hz⟩:=I1.tuple hq;refine wpAny_pyIter_tuple (show s1.heap.IsTuple a its.toArray from p) ?_
 refine⟨s1⁻¹,[s1⁻¹],_,_,H1,rfl,I1.kept (t':=s1.toks) λb o e=>bP _ e,vB a _,⟨_,eD _ rfl,rfl,rfl⟩,λb hb=>?_,q⟩
 have e:b=s1⁻¹:=by simpa using hb
 subst e;exact I1.BP (d5 _) (I1.hok.fresh (d5 _))
theorem sY{ah:List (Addr×Obj)}{σ:St}{H:Hp}{s:Shared}{R:It->Hp->Prop}{E:Value->Shared->Prop}{lo hi:Int}{t u v:Tok}{tk:Nat}(I:Inv X ah σ H s)(h1 : -(2 ^ 62)<=lo)(h2:lo<2 ^ 62)(h3 : -(2 ^ 62)<=hi)(h4:hi<2 ^ 62)
  (q:R (N2 lo (hi - lo).toNat) H):wpAny (model X.prog X.w) X.A (pyIter (.ref s⁻¹)) (PIE X ah σ tg R) E { s with heap:=s.heap.push { cls:=.type "range",data:=.fields #[.int lo t,.int hi u,.int 1 v]},toks:=tk}:=by
 refine wpAny_pyIter_range (IsRange.new ..) (small_one h1 h2 h3 h4) ?_;have I1:Inv X ah σ H { s with heap:=s.heap.push { cls:=.type "range",data:=.fields #[.int lo t,.int hi u,.int 1 v]},toks:=tk}:=I.kept λb o e=>bP _ e
 refine⟨(s.heap.push { cls:=.type "range",data:=.fields #[.int lo t,.int hi u,.int 1 v]}).objs.size,[(s.heap.push { cls:=.type "range",data:=.fields #[.int lo t,.int hi u,.int 1 v]}).objs.size],_,_,H,rfl,
  I1.kept (t':=tk) λb o e=>bP _ e,vC _ lo (hi - lo).toNat,?_,λb hb=>?_,q⟩
 .
  have e1:lo+((0:Nat):Int) * 1=lo:=by simp
  have e2:(((hi - lo).toNat:Nat):Int) - ((0:Nat):Int)=Builtin.Range.rangeSize lo hi 1:=by rw[rangeSize_one];split <;> lia
  show IsRangeIter _ _ (lo+((0:Nat):Int) * 1) ((((hi - lo).toNat:Nat):Int) - ((0:Nat):Int)) 1;rw[e1,e2];exact eD _ rfl
 .
  have e:b=(s.heap.push { cls:=.type "range",data:=.fields #[.int lo t,.int hi u,.int 1 v]}).objs.size:=by simpa using hb
  subst e;exact I1.BP (d5 _) (I1.hok.fresh (d5 _))
def U4(ta:TA):TI:=λσ H R=>ta σ H λvs H1=>∃j:Int,vs=[.int j]/\-(2 ^ 62)<=j/\j<2 ^ 62/\R (N2 0 j.toNat) H1
def U5(ta:TA):TI:=λσ H R=>ta σ H λvs H1=>∃i j:Int,vs=[.int i,.int j]/\(-(2 ^ 62)<=i/\i<2 ^ 62/\-(2 ^ 62)<=j/\j<2 ^ 62)/\R (N2 i (j - i).toNat) H1
theorem pU{a:Expr}{ta:TA}{p pos:Pos}(hg:Gl X "range")(hm:X.mg "range"=none)(ha:PA X [a] ta)(hs:starEach [a] X.env=[(false,eval a X.env)]:=by rfl):PI X tg (.Call (.Name "range" p) [a] [] pos) (U4 ta):=by
 intro ah s σ H R I h;refine Call_ (fO I hg hm boot_range (oC (bQ (ha pos ah s σ H _ I h) λus s1 ⟨vs,H1,I1,r1,q1⟩=>?_) hs rfl))
 obtain⟨j,e,q1,q2,q⟩:=q1;subst e;cases r1 with
 |cons r rr=>cases rr;obtain⟨t,rfl⟩:=r;exact call_range_1 (sY I1 ⋯ ⋯ q1 q2 (by simpa using q))
theorem yZ{a b:Expr}{ta:TA}{p pos:Pos}(hg:Gl X "range")(hm:X.mg "range"=none)(ha:PA X [a,b] ta)(hs:starEach [a,b] X.env=[(false,eval a X.env),(false,eval b X.env)]:=by rfl)(hs2:starEach [b] X.env=[(false,eval b X.env)]:=by rfl) :
  PI X tg (.Call (.Name "range" p) [a,b] [] pos) (U5 ta):=by
 intro ah s σ H R I h;refine Call_ (fO I hg hm boot_range (oC (bQ (ha pos ah s σ H _ I h) λus s1 ⟨vs,H1,I1,r1,q1⟩=>?_) (by rw[hs,hs2]) (by rw[hs2];rfl)))
 obtain⟨i,j,e,⟨q1,q2,q3,q4⟩,q⟩:=q1;subst e;cases r1 with
 |cons r rr=>
  cases rr with
  |cons r' rr=>cases rr;obtain⟨t,rfl⟩:=r;obtain⟨t',rfl⟩:=r';exact call_range_2 (sY I1 q1 q2 q3 q4 q)
noncomputable def Ze(wi:TI)(g:TG)(tb:TS):TS:=λD σ H=>wi σ H λJ H1=>∃W:Nat->Nat->St->Hp->Prop,(∃m,W 0 m σ H1)/\∀i m σ H,W i m σ H->
 (J.stop i H/\D.nx σ H)\/(J.go i H/\∃N:St->Hp->Prop,(∀σ' H',N σ' H'->∃m',m'<m/\W (i+1) m' σ' H')/\∀x H',J.XZ i H x H'->g x σ H' λσ2 H2=>tb { D with nx:=N,ct:=N,bk:=D.nx} σ2 H2)
noncomputable def mQ(fp:List Addr)(h:Heap):List (Addr×Obj):=fp.filterMap λb=>(h.get? b).map λo=>(b,o)
theorem fP{fp:List Addr}{h:Heap}{b:Addr}{o:Obj}(hb:b∈fp)(e:h.get? b=some o):(b,o)∈mQ fp h:=List.mem_filterMap.mpr ⟨b,hb,by rw[e];rfl⟩
theorem y9(hp:p∈mQ fp h):p.1∈fp/\h.get? p.1=some p.2:=by
 obtain⟨b,hb,e⟩:=List.mem_filterMap.mp hp;cases q:h.get? b with
 |none=>rw[q]at e;cases e
 |some o=>rw[q]at e;have e':(b,o)=p:=n0 e;subst e';exact⟨hb,q⟩
theorem Inv.pinned{ah:List (Addr×Obj)}{σ:St}{H:Hp}{s:Shared}{fp:List Addr}(I:Inv X ah σ H s)(hf:∀b∈fp,j5 X ah H b)(ho:∀b∈fp,∃o,s.heap.get? b=some o/\∀v,o.data≠.cell v):Inv X (ah++mQ fp s.heap) σ H s:=
 I.xA λp hp=>(o0.mp hp).elim (λz=>I.pin p (lL _ z)) λz=>by
  obtain⟨hb,e⟩:=y9 z;obtain⟨f0,f1,f2,_⟩:=hf p.1 hb;obtain⟨o,e',d⟩:=ho p.1 hb;rw[e]at e';cases e';exact⟨e,f0,f1,f2,d⟩
theorem Inv.jF{ah pl:List (Addr×Obj)}{σ:St}{H:Hp}{s:Shared}(I:Inv X (ah++pl) σ H s):Inv X ah σ H s:=I.xA λp hp=>I.pin p (lL _ (AL _ hp))
theorem BW{iter:Expr}{body:List Stmt}{wi:TI}{g:TG}{tb:TS}{pos:Pos}(hp:PassesOwn (model X.prog X.w) X.A X.env X.xe)(hc:X.calm=true)(hi:PI X tg iter wi)(hg:PG X tg g)(hb:qO X body tb)
  (hs:∀x,foldedSetIterable iter X.env x=pure x:=by intro _;rfl):PS X (.For tg iter body [] pos) (Ze wi g tb):=by
 intro ah s σ H D I h;refine wpAny_For (bQ (hi ah s σ H _ I h) λv s1 h1=>bQ h1 λitv s2 h2=>?_) hs
 obtain⟨it,fp,tn,J,H2,e,I2,T,aL,f2,W,⟨m0,w0⟩,turn⟩:=h2;subst e;have stat:∀{H':Hp},(∀b∈fp,H' b=none)->∀b∈fp,j5 X ah H' b:=λhn b hb=>⟨hn b hb,(f2 b hb).2⟩
 refine codeAny_forLoop_any (λn s'=>∃i σ' H',Inv X ah σ' H' s'/\tn i s'.heap/\(∀b∈fp,H' b=none)/\W i n σ' H') ?_ m0 ⟨0,σ,H2,I2,aL,λb hb=>(f2 b hb).1,w0⟩
 rintro n s3 ⟨i,σ3,H3,I3,gF,U6,w3⟩;rcases turn i n σ3 H3 w3 with ⟨stop,qn⟩ |⟨go,N,hN,step⟩
 .
  refine yB hp (bQ (T.done X rfl rfl rfl hc i ah s3 σ3 H3 X.xe I3 (stat U6) gF stop) λr s4 ⟨hr,I4⟩=>?_)
  subst hr;exact wpAny_execs_nil ⟨σ3,H3,I4,qn⟩
 .
  refine yB hp (bQ (T.item X rfl rfl rfl hc i ah s3 σ3 H3 X.xe I3 (stat U6) gF go) λr s4 ⟨u,hr,h4⟩=>?_)
  subst hr;refine yB hp (bQ h4 λ_ s5 ⟨x,H5,I5,r5,y5,vD,Zf⟩=>?_)
  have Zg:=I5.pinned (stat Zf) (T.obj _ _ vD);refine yB hp (bQ (hg _ s5 σ3 H5 x u _ Zg r5 (step x H5 y5)) λ_ s6 ⟨σ6,H6,I6,q6⟩=>?_)
  refine yB hp (bQ (hb _ s6 σ6 H6 _ I6 q6) λf s7 q7=>?_)
  have again:∀{σ7:St}{H7:Hp},Inv X (ah++mQ fp s5.heap) σ7 H7 s7->N σ7 H7->∃m,m<n/\∃i σ' H',Inv X ah σ' H' s7/\tn i s7.heap/\(∀b∈fp,H' b=none)/\W i m σ' H':=λ{σ7 H7} I7 n7=>by
   obtain⟨m',hm,w7⟩:=hN σ7 H7 n7;refine⟨m',hm,i+1,σ7,H7,I7.jF,T.keep _ _ _ vD λb hb o e=>(I7.pin (b,o) (lL _ (lL _ (fP hb e)))).1,λb hb=>?_,w7⟩
   obtain⟨o,e,d⟩:=T.obj _ _ vD b hb;exact (I7.pin (b,o) (lL _ (lL _ (fP hb e)))).2.1
  cases f with
  |next=>obtain⟨σ7,H7,I7,n7⟩:=q7;exact again I7 n7
  |cont=>obtain⟨σ7,H7,I7,n7⟩:=q7;exact again I7 n7
  |brk=>obtain⟨σ7,H7,I7,q7⟩:=q7;exact⟨σ7,H7,I7.jF,q7⟩
  |ret v=>obtain⟨x7,σ7,H7,I7,r7,q7⟩:=q7;exact⟨x7,σ7,H7,I7.jF,r7,q7⟩
end
abbrev R2:=V->V->Hp->VK->Prop
def k9(X:Cx)(f:Value->Value->Sem Value)(r:R2):Prop:=
 ∀(ah:List (Addr×Obj)) (s:Shared) (σ:St) (H:Hp) (x y:V) (v u:Value) (Q:VK),Inv X ah σ H s->RelV x v->RelV y u->r x y H Q->
  wpAny (model X.prog X.w) X.A (f v u) (EP X ah σ Q) X.xe s
def X3(X:Cx)(f:Value->Sem Value)(r:V->Hp->VK->Prop):Prop:=
 ∀(ah:List (Addr×Obj)) (s:Shared) (σ:St) (H:Hp) (x:V) (v:Value) (Q:VK),Inv X ah σ H s->RelV x v->r x H Q->
  wpAny (model X.prog X.w) X.A (f v) (EP X ah σ Q) X.xe s
def eV(X:Cx)(f:Value)(r:List V->Hp->VK->Prop):Prop:=
 ∀(ah:List (Addr×Obj)) (s:Shared) (σ:St) (H:Hp) (xs:List V) (us:List Value) (Q:VK),Inv X ah σ H s->Vals xs us->r xs H Q->
  wpAny (model X.prog X.w) X.A (call f us) (EP X ah σ Q) X.xe s
def Zh(X:Cx)(r:V->Hp->(Bool->Hp->Prop)->Prop):Prop:=
 ∀(ah:List (Addr×Obj)) (s:Shared) (σ:St) (H:Hp) (x:V) (v:Value) (Q:Bool->Hp->Prop),Inv X ah σ H s->RelV x v->r x H Q->
  wpAny (model X.prog X.w) X.A (truthy v) (TP X ah σ Q) X.xe s
noncomputable def X4(r:R2)(ta tb:TE):TE:=λσ H Q=>ta σ H λx H1=>tb σ H1 λy H2=>r x y H2 Q
def tUn(r:V->Hp->VK->Prop)(ta:TE):TE:=λσ H Q=>ta σ H λx H1=>r x H1 Q
noncomputable def rI(C:Int->Int->Prop)(g:Int->Int->V):R2:=λx y H Q=>∃i j,x=.int i/\y=.int j/\C i j/\Q (g i j) H
noncomputable def Hr(g:Int->Int->V):R2:=λx y H Q=>∃i j,x=.int i/\y=.int j/\Q (g i j) H
def rU(g:Int->V):V->Hp->VK->Prop:=λx H Q=>∃i,x=.int i/\Q (g i) H
section
variable{X:Cx}{a b c:Expr}{ta tb tc:TE}{pos:Pos}
theorem N3(ha:PE X a ta)(hb:PE X b tb){ah:List (Addr×Obj)}{s:Shared}{σ:St}{H:Hp}{R:V->V->Hp->Prop}(I:Inv X ah σ H s)
  (h:ta σ H λx H1=>tb σ H1 λy H2=>R x y H2) {Q:Value->Shared->Prop}{f:Value->Value->Sem Value}
  (hf:∀v u s2 x y H2,Inv X ah σ H2 s2->RelV x v->RelV y u->R x y H2->wpAny (model X.prog X.w) X.A (f v u) Q X.xe s2) :
  wpAny (model X.prog X.w) X.A (eval a X.env) (λv s₁=>wpAny (model X.prog X.w) X.A (eval b X.env) (λu s₂=>wpAny (model X.prog X.w) X.A (f v u) Q X.xe s₂) X.xe s₁) X.xe s:=by
 refine bQ (ha ah s σ H _ I h) λv s1 ⟨x,H1,I1,r1,q1⟩=>?_
 refine bQ (hb ah s1 σ H1 _ I1 q1) λu s2 ⟨y,H2,I2,r2,q2⟩=>?_
 exact hf v u s2 x y H2 I2 r1 r2 q2
theorem U7{op:Operator}{r:R2}(ho:k9 X (binaryOp op) r)(ha:PE X a ta)(hb:PE X b tb):PE X (.BinOp a op b pos) (X4 r ta tb):=by intro ah s σ H Q I h;exact wpAny_BinOp (N3 ha hb I h λv u s2 x y H2 I2 rx ry q=>ho ah s2 σ H2 x y v u Q I2 rx ry q)
theorem Mi{op:UnaryOp}{r:V->Hp->VK->Prop}(ho:X3 X (unaryOp op) r)(ha:PE X a ta):PE X (.UnaryOp op a pos) (tUn r ta):=by intro ah s σ H Q I h;exact UnaryOp_ (bQ (ha ah s σ H _ I h) λv s1 ⟨x,H1,I1,r1,q1⟩=>ho ah s1 σ H1 x v Q I1 r1 q1)
theorem X5{f:Value->Value->Sem Value}{C:Int->Int->Prop}{g:Int->Int->Int}
  (rule:∀(i j:Int) (t u:Tok) (s:Shared) (Q:Value->Shared->Prop) (E:Value->Shared->Prop),C i j->Q (.int (g i j) s.toks) { s with toks:=s.toks+1}->wpAny (model X.prog X.w) X.A (f (.int i t) (.int j u)) Q E s) :
  k9 X f (rI C λi j=>.int (g i j)):=by
 intro ah s σ H x y v u Q I rx ry h;obtain⟨i,j,rfl,rfl,hc,q⟩:=h;obtain⟨t,rfl⟩:=rx;obtain⟨t',rfl⟩:=ry;exact rule i j t t' s _ _ hc ⟨.int (g i j),H,I.tok _,⟨_,rfl⟩,q⟩
theorem U8{f:Value->Value->Sem Value}{g:Int->Int->Int}
  (rule:∀(i j:Int) (t u:Tok) (s:Shared) (Q:Value->Shared->Prop) (E:Value->Shared->Prop),Q (.int (g i j) s.toks) { s with toks:=s.toks+1}->wpAny (model X.prog X.w) X.A (f (.int i t) (.int j u)) Q E s) :
  k9 X f (Hr λi j=>.int (g i j)):=by
 intro ah s σ H x y v u Q I rx ry h;obtain⟨i,j,rfl,rfl,q⟩:=h;obtain⟨t,rfl⟩:=rx;obtain⟨t',rfl⟩:=ry;exact rule i j t t' s _ _ ⟨.int (g i j),H,I.tok _,⟨_,rfl⟩,q⟩
theorem HY{f:Value->Value->Sem Value}{g:Int->Int->Bool}
  (rule:∀(i j:Int) (t u:Tok) (s:Shared) (Q:Value->Shared->Prop) (E:Value->Shared->Prop),Q (.bool (g i j)) s->wpAny (model X.prog X.w) X.A (f (.int i t) (.int j u)) Q E s) :
  k9 X f (Hr λi j=>.bl (g i j)):=by
 intro ah s σ H x y v u Q I rx ry h;obtain⟨i,j,rfl,rfl,q⟩:=h;obtain⟨t,rfl⟩:=rx;obtain⟨t',rfl⟩:=ry;exact rule i j t t' s _ _ ⟨.bl (g i j),H,I,rfl,q⟩
def Zi(i j:Int):Prop:=0<j/\j<1073741824
def Zj(i j:Int):Prop:=0<=j/\j<=1000000/\i.natAbs<2 ^ 64
def N4(i j:Int):Prop:=(-(2 ^ 64)<i/\i<2 ^ 64)\/(-(2 ^ 64)<j/\j<2 ^ 64)
theorem N4.ok{i j:Int}(h:N4 i j):IntMulOk i j:=by
 rcases h with ⟨h1,h2⟩ |⟨h1,h2⟩
 . exact .of_left (intBits_le_64 h1 h2)
 . exact .of_right (intBits_le_64 h1 h2)
theorem N5:k9 X (binaryOp .Add) (Hr λi j=>.int (i+j)):=U8 λ_ _ _ _ _ _ _ q=>add_int q
theorem N6:k9 X (binaryOp .Sub) (Hr λi j=>.int (i - j)):=U8 λ_ _ _ _ _ _ _ q=>sub_int q
theorem N7:k9 X (binaryOp .Mult) (rI N4 λi j=>.int (i * j)):=X5 λ_ _ _ _ _ _ _ hc q=>mul_int q hc.ok
theorem Ia:k9 X (binaryOp .FloorDiv) (rI Zi λi j=>.int (i / j)):=X5 λi j _ _ _ _ _ hc q=>by
 have h1:(0:Int)<j:=hc.1;have h2:j<1073741824:=hc.2;exact floordiv_int ⋯ (by rw[Int.fdiv_eq_ediv_of_nonneg i ⋯];exact q) (.inl (PyProof.noPylong_small ⋯))
theorem N8:k9 X (binaryOp .Mod) (rI (λ_ j=>0<j) λi j=>.int (i % j)):=X5 λi j _ _ _ _ _ hc q=>by
 have h1:(0:Int)<j:=hc;exact mod_int' ⋯ (by rw[Int.fmod_eq_emod_of_nonneg i ⋯];exact q)
theorem qT:k9 X (binaryOp .Pow) (rI Zj λi j=>.int (i ^ j.toNat)):=X5 λ_ _ _ _ _ _ _ hc q=>pow_int_small hc.1 hc.2.1 hc.2.2 q
theorem unI{f:Value->Sem Value}{g:Int->Int}
  (rule:∀(i:Int) (t:Tok) (s:Shared) (Q:Value->Shared->Prop) (E:Value->Shared->Prop),Q (.int (g i) s.toks) { s with toks:=s.toks+1}->wpAny (model X.prog X.w) X.A (f (.int i t)) Q E s) :
  X3 X f (rU λi=>.int (g i)):=by
 intro ah s σ H x v Q I rx h;obtain⟨i,rfl,q⟩:=h;obtain⟨t,rfl⟩:=rx;exact rule i t s _ _ ⟨.int (g i),H,I.tok _,⟨_,rfl⟩,q⟩
theorem BX:X3 X (unaryOp .USub) (rU λi=>.int (-i)):=unI λ_ _ _ _ _ q=>neg_int q
end
section
variable{X:Cx}{a b c:Expr}{ta tb tc:TE}{pos:Pos}
theorem U9:k9 X (compareOp .Lt) (Hr λi j=>.bl (decide (i<j))):=HY λ_ _ _ _ _ _ _ q=>lt_int q
theorem Va:k9 X (compareOp .LtE) (Hr λi j=>.bl (decide (i<=j))):=HY λ_ _ _ _ _ _ _ q=>le_int q
theorem Vb:k9 X (compareOp .Gt) (Hr λi j=>.bl (decide (j<i))):=HY λ_ _ _ _ _ _ _ q=>gt_int q
theorem Vc:k9 X (compareOp .GtE) (Hr λi j=>.bl (decide (j<=i))):=HY λ_ _ _ _ _ _ _ q=>ge_int q
theorem xG{op:CmpOp}{r:R2}(ho:k9 X (compareOp op) r)(ha:PE X a ta)(hb:PE X b tb)(hm:behindInMarks op b=false):PE X (.Compare a [op] [b] pos) (X4 r ta tb):=by intro ah s σ H Q I h;exact wpAny_Compare1 (N3 ha hb I h λv u s2 x y H2 I2 rx ry q=>ho ah s2 σ H2 x y v u Q I2 rx ry q) hm
def Vd(t:TE):TT:=λσ H Q=>t σ H λx H'=>∃k,x=.bl k/\Q k H'
theorem qU{op:CmpOp}{r:R2}(ho:k9 X (compareOp op) r)(ha:PE X a ta)(hb:PE X b tb)(hm:behindInMarks op b=false):PT X (.Compare a [op] [b] pos) (Vd (X4 r ta tb)):=by
 intro ah s σ H Q I h;refine wpAny_isTrue_Compare1 (bQ (ha ah s σ H _ I h) λv s1 ⟨x,H1,I1,r1,q1⟩=>bQ (hb ah s1 σ H1 _ I1 q1) λu s2 ⟨y,H2,I2,r2,q2⟩=>
  bQ (ho ah s2 σ H2 x y v u _ I2 r1 r2 q2) λc s3 ⟨z,H3,I3,r3,k,e,q3⟩=>?_) hm
 subst e;cases r3;exact nE ⟨H3,I3,q3⟩
def Ve(K:Frag)(x:V)(H:Hp)(k:Bool):Prop:=
 match x with
 |.non=>k=false
 |.bl b=>k=b
 |.int i=>k=(i != 0)
 |.str y=>y.length<=sizeLine/\k=((y.length:Int) != 0)
 |.Nu y=>y.size<=sizeLine/\k=((y.size:Int) != 0)
 |.ref p=>(∃xs,bX K H p xs/\k=!xs.isEmpty)\/(∃xs,gi K H p xs/\k=!xs.isEmpty)\/∃jf,H p=some (.dK jf)/\k=!jf.isEmpty
 |_=>False
theorem vE{κ:Type}{jf:List (κ×V)}{vs:List (κ×Value)}(r:KV jf vs):(!vs.isEmpty)=!jf.isEmpty:=by cases r <;> rfl
theorem mR{xs:List V}{its:List Value}(r:Vals xs its):(!its.toArray.isEmpty)=!xs.isEmpty:=by cases r <;> simp
theorem mS:(sizeLine:Nat)<2 ^ 63:=by rw[l5];decide
theorem N9:Zh X (λx H Q=>∃k,Ve X.K x H k/\Q k H):=by
 intro ah s σ H x v Q I rx h;obtain⟨k,e,q⟩:=h;have hl:=mS;have hs:sizeLine=16777216:=l5;cases x with
 |non=>cases rx;have e':k=false:=e;subst e';exact truthy_none ⟨H,I,q⟩
 |bl b=>cases rx;have e':k=b:=e;subst e';exact nE ⟨H,I,q⟩
 |int i=>obtain⟨t,rfl⟩:=rx;have e':k=(i != 0):=e;subst e';exact PySem.P.truthy_int ⟨H,I,q⟩
 |str y=>obtain⟨t,rfl⟩:=rx;obtain⟨hy,e'⟩:y.length<=sizeLine/\k=((y.length:Int) != 0):=e;subst e';exact PySem.P.truthy_str ⋯ ⟨H,I.tok _,q⟩
 |Nu y=>obtain⟨t,rfl⟩:=rx;obtain⟨hy,e'⟩:y.size<=sizeLine/\k=((y.size:Int) != 0):=e;subst e';exact PySem.W.truthy_bytes ⋯ ⟨H,I.tok _,q⟩
 |ref p=>
  cases rx;have e':(∃xs,bX X.K H p xs/\k=!xs.isEmpty)\/(∃xs,gi X.K H p xs/\k=!xs.isEmpty)\/∃jf,H p=some (.dK jf)/\k=!jf.isEmpty:=e;rcases e' with ⟨xs,hx,e'⟩ |⟨xs,hx,e'⟩ |⟨jf,hx,e'⟩
  . subst e';obtain⟨its,r,pl,hz⟩:=I.list hx;have aJ:=r.length;exact wpAny_truthy_list pl.isList (by simp only[dC];lia) ⟨H,I.tok _,by rw[mR r];exact q⟩
  . subst e';obtain⟨its,r,pl,hz⟩:=I.tuple hx;have aJ:=r.length;exact truthy_tuple pl (by simp only[dC];lia) ⟨H,I.tok _,by rw[mR r];exact q⟩
  . subst e';obtain⟨hz,hS,vs,r,m⟩:jf.length<=sizeLine/\(p==sysModules)=false/\∃vs,KV jf vs/\s.heap.DictOf (qL X.prog X.w) p vs:=I.hok p _ hx;have aJ:jf.length=vs.length:=Paired.length r;exact wpAny_truthy_dict hS m ⋯ ⟨H,I.tok _,by rw[vE r];exact q⟩
 |_=>exact (show False from e).elim
theorem BZ(ha:PE X a ta)(he:∀whole,isTrue a X.env whole=(do let v <- whole;standAt a.pos;holding [v] (truthy v))) :
  PT X a (λσ H Q=>ta σ H λx H'=>∃k,Ve X.K x H' k/\Q k H'):=by
 intro ah s σ H Q I h;exact isTrue_plain (bQ (ha ah s σ H _ I h) λv s1 ⟨x,H1,I1,r1,q1⟩=>N9 ah s1 σ H1 x v Q I1 r1 q1) (he _)
theorem vals1(r:Vals [x] us):∃u,us=[u]/\RelV x u:=by
 cases r with
 |cons r1 r2=>cases r2;exact⟨_,rfl,r1⟩
theorem vals2(r:Vals [x,y] us):∃u w',us=[u,w']/\RelV x u/\RelV y w':=by
 cases r with
 |cons r1 r2=>
  cases r2 with
  |cons r3 r4=>cases r4;exact⟨_,_,rfl,r1,r3⟩
theorem za(hc:X.calm=true):eV X (.builtin "max") (λxs H Q=>∃i j,xs=[.int i,.int j]/\Q (.int (if j > i then j else i)) H):=by
 intro ah s σ H xs us Q I r h;obtain⟨i,j,rfl,q⟩:=h;obtain⟨u,w',rfl,⟨t,rfl⟩,⟨t',rfl⟩⟩:=vals2 r;refine max_two_ints (I.ok.hd hc) λh' tk k=>⟨_,H,I.kept k,?_,q⟩
 by_cases hj:j > i
 . rw[fN hj,fN hj];exact⟨_,rfl⟩
 . rw[fR hj,fR hj];exact⟨_,rfl⟩
theorem zb(hc:X.calm=true):eV X (.builtin "min") (λxs H Q=>∃i j,xs=[.int i,.int j]/\Q (.int (if j<i then j else i)) H):=by
 intro ah s σ H xs us Q I r h;obtain⟨i,j,rfl,q⟩:=h;obtain⟨u,w',rfl,⟨t,rfl⟩,⟨t',rfl⟩⟩:=vals2 r;refine min_two_ints (I.ok.hd hc) λh' tk k=>⟨_,H,I.kept k,?_,q⟩
 by_cases hj:j<i
 . rw[fN hj,fN hj];exact⟨_,rfl⟩
 . rw[fR hj,fR hj];exact⟨_,rfl⟩
def Zm(K:Frag)(x:V)(H:Hp)(n:Nat):Prop:=
 match x with
 |.str y=>y.length<=sizeLine/\n=y.length
 |.Nu y=>y.size<=sizeLine/\n=y.size
 |.ref p=>(∃xs,bX K H p xs/\n=xs.length)\/∃xs,gi K H p xs/\n=xs.length
 |_=>False
theorem Ca:eV X (.builtin "len") (λxs H Q=>∃x n,xs=[x]/\Zm X.K x H n/\Q (.int n) H):=by
 intro ah s σ H xs us Q I r h;obtain⟨x,n,rfl,e,q⟩:=h;obtain⟨u,rfl,rx⟩:=vals1 r;have hl:=mS;have hs:sizeLine=16777216:=l5;cases x with
 |str y=>obtain⟨t,rfl⟩:=rx;obtain⟨hy,e'⟩:y.length<=sizeLine/\n=y.length:=e;subst e';exact len_str ⋯ ⟨.int _,H,I.tok _,⟨_,rfl⟩,q⟩
 |Nu y=>obtain⟨t,rfl⟩:=rx;obtain⟨hy,e'⟩:y.size<=sizeLine/\n=y.size:=e;subst e';exact PySem.W.len_bytes ⋯ ⟨.int _,H,I.tok _,⟨_,rfl⟩,q⟩
 |ref p=>
  cases rx;have e':(∃xs,bX X.K H p xs/\n=xs.length)\/∃xs,gi X.K H p xs/\n=xs.length:=e;rcases e' with ⟨xs,hx,e'⟩ |⟨xs,hx,e'⟩
  . subst e';obtain⟨its,r',pl,hz⟩:=I.list hx;have aJ:=r'.length;exact Calls.call_len_list pl.isList (by simp only[dC];lia) ⟨.int xs.length,H,I.tok _,⟨_,by simp only[dC];rw[aJ]⟩,q⟩
  . subst e';obtain⟨its,r',pl,hz⟩:=I.tuple hx;have aJ:=r'.length;exact len_tuple pl (by simp only[dC];lia) ⟨.int xs.length,H,I.tok _,⟨_,by simp only[dC];rw[aJ]⟩,q⟩
 |_=>exact (show False from e).elim
end
structure cG(k:Nat)(A:Around):Prop where
 hd:A.handled=none
 dp:A.depth+3 * k+5<recursionLimit
 un:A.units+16 * k+200<cLine
theorem cG.mono{j k:Nat}{A:Around}(r:cG k A)(h:j<=k):cG j A:=⟨r.hd,by have:=r.dp;lia,by have:=r.un;lia⟩
theorem cG.deeper(r:cG (k+1) A)(env:Env):cG k (A.deeper env):=
 ⟨r.hd,by have:=r.dp;show A.depth+1+3 * k+5<_;lia,by have:=r.un;show A.units+3+16 * k+200<_;lia⟩
theorem cG.depth{k:Nat}{A:Around}(r:cG k A):A.depth<recursionLimit:=by have:=r.dp;lia
def Zn:TA:=λ_ H Q=>Q [] H
noncomputable def Vf(ta:TE)(tr:TA):TA:=λσ H Q=>ta σ H λx H1=>tr σ H1 λxs H2=>Q (x::xs) H2
section
variable{X:Cx}{e:Expr}{es:List Expr}{te:TE}{t:TA}{pos:Pos}
theorem dR:PA X [] Zn:=λ_ _ _ _ H Q I h=>Calls.spliced_nil ⟨[],H,I,.nil,h⟩
theorem bC(ha:PE X e te)(hr:PA X es t)(hs:starEach (e::es) X.env=(false,eval e X.env)::starEach es X.env:=by rfl):PA X (e::es) (Vf te t):=by
 intro pos ah s σ H Q I h;rw[hs];show wpAny _ _ (spliced ((false,eval e X.env)::backTo pos (starEach es X.env))) _ _ s;refine Calls.spliced_cons (bQ (ha ah s σ H _ I h) λu s1 ⟨x,H1,I1,r1,q1⟩=>?_)
 exact bQ (hr pos ah s1 σ H1 _ I1 q1) λus s2 ⟨xs,H2,I2,r2,q2⟩=>⟨x::xs,H2,I2,.cons r1 r2,q2⟩
def Zo(t:TA):TE:=λσ H Q=>t σ H λxs H1=>xs.length<=sizeLine/\∀p,H1 p=none->Q (.ref p) (upd H1 p (.tup xs))
def Vg(t:TA):TE:=λσ H Q=>t σ H λxs H1=>xs.length<=sizeLine/\∀p,H1 p=none->Q (.ref p) (upd H1 p (.lst xs))
theorem Cb{x1}(h:PA X es t):PE X (.Tuple es x1 pos) (Zo t):=by
 intro ah s σ H Q I hq;refine wpAny_Tuple_spliced (bQ (h pos ah s σ H _ I hq) λus s1 ⟨xs,H1,I1,r,z,q⟩=>⟨by rw[<- r.length];exact z,?_⟩)
 have hf:H1 s1⁻¹=none:=I1.hok.fresh (d5 _);refine⟨.ref s1⁻¹,upd H1 s1⁻¹ (.tup xs),I1.laid (t':=s1.toks) (λb u e=>bP _ e) (d5 _) ?_,rfl,q _ hf⟩
 exact⟨z,us,r,⟨_,eD _ rfl,⟨rfl,_,rfl⟩,rfl⟩⟩
theorem vF(h:PA X es t):PE X (.List es pos) (Vg t):=by
 intro ah s σ H Q I hq;refine wpAny_List_spliced (bQ (h pos ah s σ H _ I hq) λus s1 ⟨xs,H1,I1,r,z,q⟩=>⟨by rw[<- r.length];exact z,?_⟩)
 have hf:H1 s1⁻¹=none:=I1.hok.fresh (d5 _);refine⟨.ref s1⁻¹,upd H1 s1⁻¹ (.lst xs),I1.laid (t':=s1.toks) (λb u e=>bP _ e) (d5 _) ?_,rfl,q _ hf⟩
 exact⟨z,us,0,r,eD _ rfl⟩
end
abbrev Sp:=List V->Hp->VK->XK->Prop
abbrev zc:=List Env->Hp->Shared->XK->Value->Shared->Prop
structure Cd(P:Program)(w:World)(K:Frag)(mg:Str->Option Value)(base:Heap)(A:Around)(outer:List Env)(s:Shared)(H:Hp):Prop where
 frames:A.frames=some outer
 mod:Mod K mg base
 bs:∀b o,base.get? b=some o->s.heap.get? b=some o/\H b=none
 Bv:base.objs.size<=s⁻¹
 jE:s.heap.FunFrames base outer
 HS:∀b∈frs outer,H b=none
 hok:j4 P w H s.heap
 bare:AllBare s.gens
def CE(outer:List Env)(P:Program)(w:World)(H:Hp)(s:Shared)(Q:VK)(u:Value)(s':Shared):Prop:=
 ∃v H',s'.os=s.os/\AllBare s'.gens/\Un (frs outer) [] H H' s.heap s'.heap/\j4 P w H' s'.heap/\RelV v u/\Q v H'
def CR(CX:zc)(outer:List Env)(P:Program)(w:World)(H:Hp)(s:Shared)(Q:VK)(E:XK)(r:Result)(s':Shared):Prop:=
 match r with
 |.ok (.ret u)=>CE outer P w H s Q u s'
 |.ok _=>False
 |.error e=>CX outer H s E e s'
structure iO(P:Program)(w:World)(K:Frag)(mg:Str->Option Value)(base:Heap)(CX:zc)(k:Nat)(f:Addr)(fd:FuncData)(ps:List Str)(sp:Sp):Prop where
 len:∀vs H Q E,sp vs H Q E->vs.length=ps.length
 run:∀(A:Around) (outer:List Env) (s:Shared) (H:Hp) (args:Args) (us:List Value) (vs:List V) (Q:VK) (E:XK),cG k A->Cd P w K mg base A outer s H->BindsTo s fd args (ps.zip us)->Vals vs us->sp vs H Q E->
  codeAny (model P w) A (.call (.ref f) args) (CR CX outer P w H s Q E) s
section
variable{X:Cx}{ah:List (Addr×Obj)}{σ:St}{H:Hp}{s s':Shared}
theorem Inv.Ib(I:Inv X ah σ H s):Cd X.prog X.w X.K X.mg X.base X.A X.stack s H:=
 ⟨I.ok.frames,I.ok.mod,I.bs,l6 I.ok.Bv I.sz,I.stack,I.qN,I.hok,I.bare⟩
theorem Inv.after(I:Inv X ah σ H s)(h:CE X.stack X.prog X.w H s Q u s'):EP X ah σ Q u s':=by obtain⟨v,H',os,bare,un,hok,r,q⟩:=h;obtain⟨hh,g,d,t,os'⟩:=s';obtain rfl:os'=s.os:=os;exact⟨v,H',I.call (h':=hh) (g':=g) (d':=d) (t':=t) (ch:=[]) un hok bare (λb z=>absurd z ⋯),r,q⟩
end
noncomputable def Vh(sp:Sp)(sZ:List V)(E:XK)(t:TA):TE:=λσ H Q=>t σ H λvs H1=>sp (vs++sZ) H1 Q E
def Binds(K:Frag)(fd:FuncData)(ps:List Str)(ds:List Value):Prop:=
 ∀(s:Shared) (us:List Value),K.In s.heap->(us++ds).length=ps.length->BindsTo s fd ⟨us,[]⟩ (ps.zip (us++ds))
theorem Binds.all{K:Frag}{fd:FuncData}{ps:List Str}(h:∀us:List Value,us.length=ps.length->bindArgs fd ⟨us,[]⟩=pure (ps.zip us)):Binds K fd ps []:=λs us _ hl=>by
 rw[l4]at hl ⊢
 exact .of_eq (h us hl)
def Passes(CX:zc)(X:Cx)(E:XK):Prop:=∀(ah:List (Addr×Obj)) (σ:St) (H:Hp) (s:Shared) (e:Value) (s':Shared),Inv X ah σ H s->CX X.stack H s E e s'->X.xe e s'
section
variable{X:Cx}{CX:zc}{k:Nat}{f C:Addr}{fd:FuncData}{ps:List Str}{sp:Sp}{sZ:List V}{ds:List Value}{E:XK}{x m:Str}{p pos bH:Pos}{e o:Expr}{es:List Expr}{ta:TE}{t:TA}
theorem Oa{ah:List (Addr×Obj)}{σ:St}{H:Hp}{s:Shared}{Q:VK}{us:List Value}{vs:List V}(F:iO X.prog X.w X.K X.mg X.base CX k f fd ps sp)(hr:cG k X.A)(hb:Binds X.K fd ps ds)(hd:Vals sZ ds)(hx:Passes CX X E)
  (I:Inv X ah σ H s) (r:Vals vs us) (h:sp (vs++sZ) H Q E):wpAny (model X.prog X.w) X.A (call (.ref f) us) (EP X ah σ Q) X.xe s:=by
 have r2:Vals (vs++sZ) (us++ds):=r.append hd;have hl:(us++ds).length=ps.length:=by rw[<- r2.length];exact F.len _ _ _ _ h
 refine CD (BH (F.run X.A X.stack s H ⟨us,[]⟩ (us++ds) (vs++sZ) Q E hr I.Ib (hb s us I.lT hl) r2 h) λr s' hq=>?_)
 cases r with
 |error e=>exact hx ah σ H s e s' I hq
 |ok fl=>
  cases fl with
  |ret u=>exact I.after hq
  |next=>exact False.elim hq
  |brk=>exact False.elim hq
  |cont=>exact False.elim hq
theorem xH(F:iO X.prog X.w X.K X.mg X.base CX k f fd ps sp)(hr:cG k X.A)(hg:Gl X x)(hm:X.mg x=some (.ref f))(hk:PySem.W.keepIn X.K (.ref f)=true)(hb:Binds X.K fd ps ds)(hd:Vals sZ ds)(hx:Passes CX X E)
  (ha:PA X (e::es) t) (je:(x==("__debug__":Str))=false:=by decide) (he:starEach (e::es) X.env=(false,eval e X.env)::starEach es X.env:=by rfl) (iB:(backTo pos (starEach es X.env)).any (·.1)=false:=by rfl) :
  PE X (.Call (.Name x p) (e::es) [] pos) (Vh sp sZ E t):=by
 intro ah s σ H Q I h;refine oS (eU I hg hm ?_ je);refine AA (h₀:=X.base) I.ok.mod.Bg hk (bQ (ha pos ah s σ H _ I h) λus s1 ⟨vs,H1,I1,r,q⟩=>⟨I1.lT,?_⟩) he iB
 exact Oa F hr hb hd hx I1 r q
end
structure bV(N P:List Str)(sc:Scope):Prop where
 kind:sc.kind=.function
 co:sc.isCoroutine=false
 gen:sc.isGenerator=false
 nd:N.Nodup
 pre:N.take P.length=P
 par:∀x∈P,sc.names.lookup x=some .local\/sc.names.lookup x=some .cell
 Ob:∀y∈sc.names,y.2≠.free
theorem pW{kindOf:Str->Option NameKind}{x:Str}:∀{binds:List (Str×Value)}{m:Str->Option Value},(∀v,(x,v)∉binds)->bindL kindOf binds m x=m x
 | [],_,_=>rfl
 | (n,v)::r,m,h=>by
  unfold bindL;rw[pW λw hw=>h w (b0 _ hw)]
  split
  .
   have:x≠n:=by rintro rfl;exact h v dA
   simp[this]
  . rfl
theorem pX{kindOf:Str->Option NameKind}{x:Str}:∀{binds:List (Str×Value)}{m:Str->Option Value},(∀v,(x,v)∉binds)->bindC kindOf binds m x=m x
 | [],_,_=>rfl
 | (n,v)::r,m,h=>by
  unfold bindC;rw[pX λw hw=>h w (b0 _ hw)]
  split
  . rfl
  .
   have:x≠n:=by rintro rfl;exact h v dA
   simp[this]
theorem pY{kindOf:Str->Option NameKind}{x:Str}{v:Value}:∀{P:List Str}{vs:List Value}{i:Nat}{m:Str->Option Value},P.Nodup->P[i]?=some x->vs[i]?=some v->kindOf x=some .local->
  bindL kindOf (P.zip vs) m x=some v
 | [],_,_,_,_,h,_,_=>by simp at h
 |_::_,[],_,_,_,_,h,_=>by simp at h
 |p::P,w::vs,0,m,nd,h1,h2,hk=>by
  simp at h1 h2;subst h1;subst h2;show bindL kindOf ((p,w)::P.zip vs) m p=_;unfold bindL;rw[pW λv hv=>(fA.mp nd).1 (B6 hv).1,fN hk]
  simp
 |p::P,w::vs,i+1,m,nd,h1,h2,hk=>by
  show bindL kindOf ((p,w)::P.zip vs) m x=_;unfold bindL;exact pY (i:=i) (fA.mp nd).2 (by simpa using h1) (by simpa using h2) hk
theorem pZ{kindOf:Str->Option NameKind}{x:Str}{v:Value}:∀{P:List Str}{vs:List Value}{i:Nat}{m:Str->Option Value},P.Nodup->P[i]?=some x->vs[i]?=some v->kindOf x≠some .local->
  bindC kindOf (P.zip vs) m x=some v
 | [],_,_,_,_,h,_,_=>by simp at h
 |_::_,[],_,_,_,_,h,_=>by simp at h
 |p::P,w::vs,0,m,nd,h1,h2,hk=>by
  simp at h1 h2;subst h1;subst h2;show bindC kindOf ((p,w)::P.zip vs) m p=_;unfold bindC;rw[pX λv hv=>(fA.mp nd).1 (B6 hv).1,fR hk]
  simp
 |p::P,w::vs,i+1,m,nd,h1,h2,hk=>by
  show bindC kindOf ((p,w)::P.zip vs) m x=_;unfold bindC;exact pZ (i:=i) (fA.mp nd).2 (by simpa using h1) (by simpa using h2) hk
noncomputable def start(N:List Str)(vs:List V):St:=vs.map some++List.replicate (N.length - vs.length) none
noncomputable def eZ(CX:zc)(P:Program)(w:World)(K:Frag)(mg:Str->Option Value)(base:Heap)(N:List Str)(qual:Str)(scope:Scope)(f:Addr)(cd:Value)(A:Around)(outer:List Env)(s:Shared)(H:Hp)(E:XK):Cx where
 prog:=P
 w:=w
 K:=K
 mg:=mg
 base:=base
 A:=A.deeper (envOfC qual scope s⁻¹ f cd)
 N:=N
 s₀:=s
 H₀:=H
 env:=envOfC qual scope s⁻¹ f cd
 outer:=outer
 stack:=envOfC qual scope s⁻¹ f cd::outer
 ex:=[]
 calm:=true
 fn:=λ_=>true
 pn:=[]
 xe:=λe s'=>wpAny (model P w) (A.deeper (envOfC qual scope s⁻¹ f cd)) (leaving (envOfC qual scope s⁻¹ f cd) e) (λ_ s''=>CX outer H s E e s'') (λe' s''=>CX outer H s E e' s'') s'
theorem tD{sc:Scope}{n:Nat}{x:Str}(h:sc.names.lookup x=some .cell):∃c,(cellsFrom n sc.names []).lookup x=some c:=by have q:=A9 sc.names n [] (.inl h);exact Option.isSome_iff_exists.mp q
theorem p7{CX:zc}{P:Program}{w:World}{K:Frag}{mg:Str->Option Value}{base:Heap}{N ps:List Str}{qual:Str}{scope:Scope}{f:Addr}{cd:Value}{A:Around}{outer:List Env}{s s1:Shared}{H:Hp}{E:XK}{us:List Value}{vs:List V}
  (S:bV N ps scope) (hd:A.handled=none) (e0:Cd P w K mg base A outer s H) (hl:vs.length=ps.length) (r:Vals vs us)
  (x:InCallC s s⁻¹ (bindL (envOfC qual scope s⁻¹ f cd).kindOf (ps.zip us) λ_=>none) (cellsFrom (s⁻¹+1) scope.names []) (bindC (envOfC qual scope s⁻¹ f cd).kindOf (ps.zip us) λ_=>none) s1) :
  Inv (eZ CX P w K mg base N qual scope f cd A outer s H E) [] (start N vs) H s1:=by
 have iB:ps.length<=N.length:=by have:=congrArg List.length S.pre;rw[t9]at this;lia
 obtain⟨h1,tk,rfl,hk⟩:=x.done;have Vi:∀b:Addr,b∉(eZ CX P w K mg base N qual scope f cd A outer s H E).ex:=λb z=>absurd (show b∈([]:List Addr)from z) ⋯
 refine⟨⟨e0.mod,S.kind,rfl,rfl,d5 _,λy z c h1 h2=>?_,λy hy=>?_,λy c _ h=>?_,λ_=>hd,Around.frames_deeper e0.frames,.inr ⟨rfl,rfl⟩,λb z=>absurd z (Vi b),e0.bs,e0.Bv,λb _ _=>Vi b,λb z=>absurd z (Vi b),e0.jE,e0.HS⟩,
  rfl,e0.bare,Un.kept hk,⟨_,x.toInCall.ns,λi y v h1 h2 h3=>?_⟩,λy c h=>⟨_,x.cell y c h⟩,e0.hok.fresh (d5 _),λy c h=>?_,λp hp=>absurd (show p∈([]:List (Addr×Obj))from hp) ⋯,e0.hok.kept hk,?_⟩
 . exact name_of_addr x.apart (y7 h1) (y7 h2)
 .
  have hy:scope.names.lookup y=some .cell\/scope.names.lookup y=some .free:=hy;rcases hy with hy |hy
  . exact tD hy
  . exact absurd rfl (S.Ob _ (y7 hy))
 . exact Cn (x.above y c (y7 h))
 .
  have hi:i<vs.length:=by
   unfold start at h2;by_cases hi:i<vs.length
   . exact hi
   .
    rw[d6 (by simpa using hi)]at h2
    rw[y8]at h2;split at h2 <;> cases h2
  have ha:vs[i]?=some v:=by
   unfold start at h2;rw[dS (by simpa using hi),oP]at h2
   cases e:vs[i]? with
   |none=>rw[e]at h2;cases h2
   |some a=>rw[e]at h2;cases h2;rfl
  obtain⟨u,hu,rv⟩:=r.get ha;have hp:ps[i]?=some y:=by rw[<- S.pre,yY ⋯];exact h1
  have ndP:ps.Nodup:=by rw[<- S.pre];exact S.nd.sublist (List.take_sublist _ _)
  refine⟨u,rv,?_⟩;rcases S.par y (i8 hp)with k |k
  . exact .inl ⟨k,pY ndP hp hu k⟩
  .
   obtain⟨c,e⟩:=tD (n:=s⁻¹+1) k;refine .inr ⟨.inl k,c,e,?_⟩;have q:=x.cell y c e;rw[pZ ndP hp hu (by show scope.names.lookup y≠_;rw[k];decide)]at q
   exact q
 . exact e0.hok.fresh (Cn (x.above y c (y7 h)))
 . unfold start;show _=N.length;rw[gL,eR,fI];lia
theorem Mj{CX:zc}{P:Program}{w:World}{K:Frag}{mg:Str->Option Value}{base:Heap}{k:Nat}{f:Addr}{name qual:Str}{params:Arguments}{body:List Stmt}{scope:Scope}{dV kV doc pm bE ct oc:Value}{an od:Option Addr}
  {osl:Array (Option Value)}{N ps:List Str}{sp:Sp} (lk:K.lookup f=some ⟨oc,od,.func (PySem.W.fnOf name qual params body scope dV kV doc pm an bE ct),osl⟩) (bI:PySem.W.codeIn K bE qual=true) (S:bV N ps scope)
  (len:∀vs H Q E,sp vs H Q E->vs.length=ps.length)
  (hbody:∀(A:Around) (outer:List Env) (s:Shared) (H:Hp) (vs:List V) (Q:VK) (E:XK),cG k (A.deeper (envOfC qual scope s⁻¹ f bE))->sp vs H Q E->
   ∃t,qO (eZ CX P w K mg base N qual scope f bE A outer s H E) body t/\t { nx:=λ_ H'=>Q .non H',rt:=Q} (start N vs) H) :
  iO P w K mg base CX (k+1) f (PySem.W.fnOf name qual params body scope dV kV doc pm an bE ct) ps sp:=by
 refine⟨len,λA outer s H args us vs Q E hr e0 hb r TQ=>?_⟩
 have hl:=len _ _ _ _ TQ;have KX:K.In s.heap:=e0.mod.Bg.keeps λb o e=>(e0.bs b o e).1
 have lim:s.heap.NoLimit:=e0.mod.nolimit.keeps λb o e=>(e0.bs b o e).1
 have hkind:∀y∈ps.zip us,scope.names.lookup y.1=some .local\/(scope.names.lookup y.1=some .cell/\((cellsFrom (s⁻¹+1) scope.names []).lookup y.1).isSome=true):=λ⟨n,v⟩ hy=>by
  rcases S.par n (B6 hy).1 with q |q
  . exact .inl q
  . exact .inr ⟨q,A9 _ _ _ (.inl q)⟩
 refine codeAny_call_function hr.depth (KX _ _ lk) rfl S.co S.gen rfl (PySem.W.codeRec_of KX bI) (hb _ _ _ _ ?_);refine wpAny_newFunctionEnv_cells S.kind hkind λenv he s1 x=>?_
 subst he;refine⟨lim.keeps x.toInCall.keep,codeAny_func ?_⟩;obtain⟨t,ht,hq⟩:=hbody A outer s H vs Q E (hr.deeper _) TQ;have I:Inv (eZ CX P w K mg base N qual scope f bE A outer s H E) [] (start N vs) H s1:=p7 S hr.hd e0 hl r x;refine lS (ht [] s1 (start N vs) H _ I hq) (λfl s' hs=>?_) λe s' hs=>hs
 have fin:∀{σ':St}{H':Hp}{v:V}{u:Value},Inv (eZ CX P w K mg base N qual scope f bE A outer s H E) [] σ' H' s'->RelV v u->Q v H'->CE outer P w H s Q u s':=
  λ{σ' H' v u} J rv q=>⟨v,H',J.os,J.bare,J.base,J.hok,rv,q⟩
 cases fl with
 |ret u=>obtain⟨v,σ',H',J,rv,q⟩:=hs;exact fin J rv q
 |next=>obtain⟨σ',H',J,q⟩:=hs;exact fin (v:=V.non) (u:=Value.none) J rfl q
 |brk=>obtain⟨_,_,_,q⟩:=hs;exact False.elim q
 |cont=>obtain⟨_,_,_,q⟩:=hs;exact False.elim q
section
variable{X:Cx}{x:Str}{p pos:Pos}{e:Expr}{es:List Expr}{t:TA}{id T:String}{r:List V->Hp->VK->Prop}
noncomputable def tCB(r:List V->Hp->VK->Prop)(t:TA):TE:=λσ H Q=>t σ H λvs H1=>r vs H1 Q
theorem jG(hc:eV X (.builtin id) r)(hg:Gl X x)(hm:X.mg x=none)(hv:bootBuiltins x=some (.builtin id))(ha:PA X (e::es) t)(hn:x≠ "__name__" :=by decide)(je:(x==("__debug__":Str))=false:=by decide)
  (he:starEach (e::es) X.env=(false,eval e X.env)::starEach es X.env:=by rfl) (iB:(backTo pos (starEach es X.env)).any (·.1)=false:=by rfl):PE X (.Call (.Name x p) (e::es) [] pos) (tCB r t):=by
 intro ah s σ H Q I h;refine oS (fO I hg hm hv ?_ hn je);exact PyProof.Rows.callWith_builtin1 (bQ (ha pos ah s σ H _ I h) λus s1 ⟨vs,H1,I1,r1,q1⟩=>hc ah s1 σ H1 vs us Q I1 r1 q1) he iB
theorem zg(hc:eV X (.type T) r)(hg:Gl X x)(hm:X.mg x=none)(hv:bootBuiltins x=some (.type T))(ha:PA X (e::es) t)(hn:x≠ "__name__" :=by decide)(je:(x==("__debug__":Str))=false:=by decide)
  (he:starEach (e::es) X.env=(false,eval e X.env)::starEach es X.env:=by rfl) (iB:(backTo pos (starEach es X.env)).any (·.1)=false:=by rfl):PE X (.Call (.Name x p) (e::es) [] pos) (tCB r t):=by
 intro ah s σ H Q I h;refine oS (fO I hg hm hv ?_ hn je);exact oC (bQ (ha pos ah s σ H _ I h) λus s1 ⟨vs,H1,I1,r1,q1⟩=>hc ah s1 σ H1 vs us Q I1 r1 q1) he iB
end
end L2
namespace HT
open PySem PyProof.Rows
noncomputable def lexLt:List Int->List Int->Bool
 | [],[]=>false
 | [],_::_=>true
 |_::_,[]=>false
 |x::xs,y::ys=>if x=y then lexLt xs ys else decide (x<y)
theorem dD(x y:Int)(xs ys:List Int):lexLt (x::xs) (y::ys)=if x=y then lexLt xs ys else decide (x<y):=rfl
theorem oX:lexLt [] []=false:=rfl
theorem mU(y:Int)(ys:List Int):lexLt [] (y::ys)=true:=rfl
theorem mV(x:Int)(xs:List Int):lexLt (x::xs) []=false:=rfl
theorem Ce(A:Around)(s:Shared)(a:Int)(t:Tok)(c:Int)(u:Tok):∃e,SeqAt.EqAt A s (.int a t) (.int c u) e/\(e=true ↔ a=c):=
 ⟨(a==c),SeqAt.EqAt.int_int a t c u,by simp⟩
theorem Cg(A:Around)(s:Shared)(a:Int)(t:Tok)(c:Int)(u:Tok)(prog:Program)(w:World)(E:Value->Shared->Prop)(Q:Value->Shared->Prop)(h:Q (.bool (decide (a<c))) s) :
  wpAny (model prog w) A (richCompare .Lt (.int a t) (.int c u)) Q E s:=
 (PyProof.Rows.lt_int h:wpAny (model prog w) A (compareOp .Lt (.int a t) (.int c u)) Q E s)
section
open PySem.SeqAt
open PySem.AutoSeq1 (wpAny_loadPart')
open PySem.MeetsSeq PySem.MeetsSeq2 PySem.MeetsSeq3
theorem oY(l b:Addr)(items items2:Array Value)(n n2:Nat)(dd dd2:Option Addr)(sl sl2:Array (Option Value))(ns ms:List Int)(hi:IntsAre items.toList ns)(hj:IntsAre items2.toList ms) :
  Meets (Builtin.«tuple.__lt__» ⟨[.ref l,.ref b],[]⟩)
   (λ_ R s=>s.heap.get? l=some { cls:=.type "tuple",dict:=dd,data:=.seq items n,slots:=sl}/\s.heap.get? b=some { cls:=.type "tuple",dict:=dd2,data:=.seq items2 n2,slots:=sl2}/\
    R (.ok (.ret (.bool (lexLt ns ms)))) s):=
 .of_wp λprog w A R s h=>by
  obtain⟨hp,g,d,tk,os⟩:=s;obtain⟨hl,hb,h⟩:=h;have f2:=AutoSeq1.sub_tuple_tuple;have z1:items.size=ns.length:=by rw[<- hi.length];simp
  have z2:items2.size=ms.length:=by rw[<- hj.length];simp
  wp_walk using wpAny_loadPart' hl,wpAny_loadPart' hb,wpAny_forIn_list _ (λrest b s'=>b.1=none/\s'=⟨hp,g,d,tk,os⟩/\∃(vs ws:List Value) (ns' ms':List Int),rest=vs.zip ws/\
   IntsAre vs ns'/\IntsAre ws ms'/\ns'.length+items2.size=ms'.length+items.size/\R (.ok (.ret (.bool (lexLt ns' ms')))) ⟨hp,g,d,tk,os⟩) _
  case turn=>
   rintro⟨y,x⟩ rest b s' ⟨hb',rfl,vs,ws,ns',ms',hz,Zq,hwi,aJ,hR⟩;cases Zq with
   |nil=>rw[List.zip_nil_left]at hz;cases hz
   |cons a t Zr=>
    cases hwi with
    |nil=>rw[List.zip_nil_right]at hz;cases hz
    |cons c u Zt=>
     rw[AV]at hz;injection hz with hyx hrest;injection hyx with hy hx;subst hy hx;rw[dD]at hR;simp only[kS]at aJ;obtain⟨e,he,hiff⟩:=Ce A.in1 ⟨hp,g,d,tk,os⟩ a t c u;refine aS (he prog w _ _ ?_);cases e with
     |true=>
      rw[fN (hiff.mp rfl)]at hR
      wp_walk
      exact⟨rfl,rfl,_,_,_,_,hrest,Zr,Zt,by lia,hR⟩
     |false=>
      rw[fR (λq=>absurd (hiff.mpr q) i7)]at hR
      have hri:=Cg A.in1 ⟨hp,g,d,tk,os⟩ a t c u prog w
      wp_walk using hri
      exact⟨_,rfl,by simpa using hR⟩
  case fin=>
   rintro⟨b1,b2⟩ s' ⟨hb',rfl,vs,ws,ns',ms',hz,Zq,hwi,aJ,hR⟩;simp only at hb';subst hb';have hv:lexLt ns' ms'=decide (items.size<items2.size):=by
    cases Zq with
    |nil=>
     cases hwi with
     |nil=>simp only[AW]at aJ;rw[oX];exact (nV ⋯).symm
     |cons c u hw=>simp only[AW,kS]at aJ;rw[mU];exact (u8 ⋯).symm
    |cons a t hv=>
     cases hwi with
     |nil=>simp only[AW,kS]at aJ;rw[mV];exact (nV ⋯).symm
     |cons c u hw=>rw[AV]at hz;cases hz
   rw[hv]at hR
   wp_walk
   exact⟨_,rfl,by simpa [Builtin.Tuple.tupleCompareSizes]using hR⟩
  case h=>exact⟨rfl,rfl,items.toList,items2.toList,ns,ms,rfl,hi,hj,by lia,h⟩
end
section
variable{prog:Program}{w:World}{A:Around}{E:Value->Shared->Prop}{s:Shared}
theorem vG(hl:IsTup s.heap l items)(hb:IsTup s.heap b items2)(hi:IntsAre items.toList ns)(hj:IntsAre items2.toList ms)
  (hu:A.units<cLine) (h:Q (.bool (lexLt ns ms)) s):wpAny (model prog w) A (compareOp .Lt (.ref l) (.ref b)) Q E s:=by
 obtain⟨⟨cls,dd,data,sl⟩,ho,hc,n,hd⟩:=id hl;obtain⟨⟨Vj,dd2,data2,sl2⟩,ho2,hc2,n2,hd2⟩:=id hb;simp only at hc hd hc2 hd2;subst hc hd hc2 hd2;exact richCompare_meets_room (op:=.Lt) ⟨_,ho,rfl⟩ ⟨_,ho2,rfl⟩ PySem.F.slot_tuple_lt PySem.F.entry_tuple_lt (PySem.F.args_tuple_lt_2 _ _) (oY l b items items2 n n2 dd dd2 sl sl2 ns ms hi hj)
  ⟨ho,ho2,show Value.bool (lexLt ns ms)≠Value.notImplemented/\Q (.bool (lexLt ns ms)) s from⟨(λx=>nomatch x),h⟩⟩ hu
theorem Ic(ht:IsTup s.heap t vs.toArray)(hb:IsTup s.heap b ws.toArray)(hv:vs≠[])
  (h1:ws=[]->Q (.ref t) s) (h2:ws≠[]->Q (.ref s⁻¹) { s with heap:=s.heap.push { cls:=.type "tuple",data:=.seq (vs++ws).toArray}})
  (jy:vs.length+ws.length<=sizeLine):wpAny (model prog w) A (binaryOp .Add (.ref t) (.ref b)) Q E s:=by
 obtain⟨⟨cls,dd,data,sl⟩,ho,hc,n,hd⟩:=id ht;obtain⟨⟨Vj,dd2,data2,sl2⟩,ho2,hc2,n2,hd2⟩:=id hb;simp only at hc hd hc2 hd2;subst hc hd hc2 hd2;have e:vs.toArray++ws.toArray=(vs++ws).toArray:=by simp
 by_cases hw:ws=[]
 .
  exact concat_meets ⟨_,ho,rfl⟩ ⟨_,ho2,rfl⟩ noFill_tuple_add seq_tuple_add Bi AX (AR _ _)
   (tuple_addW1 t b vs.toArray ws.toArray n n2 dd dd2 sl sl2 (by simpa using hv) (by simp[hw])) ⟨ho,ho2,h1 hw⟩
 .
  refine concat_meets ⟨_,ho,rfl⟩ ⟨_,ho2,rfl⟩ noFill_tuple_add seq_tuple_add Bi AX (AR _ _)
   (tuple_addW2 t b vs.toArray ws.toArray n n2 dd dd2 sl sl2 (by simpa using hv) (by simpa using hw) (by rw[dC,dC];exact jy)) ⟨ho,ho2,?_⟩
  rw[e];exact h2 hw
noncomputable def bU(n d:Nat):Option Int->Nat
 |none=>d
 |some v=>if v<0 then (v+(n:Int)).toNat else min v.toNat n
theorem Oc(n d:Nat)(hd:d<=n)(o:Option Int):bU n d o<=n:=by
 cases o with
 |none=>exact hd
 |some v=>
  show (if v<0 then (v+(n:Int)).toNat else min v.toNat n)<=n
  by_cases hv:v<0
  . rw[fN hv];lia
  . rw[fR hv];exact Nat.min_le_right _ _
theorem xJ(v:Int)(n d:Nat):(if v<0 then max (v+(n:Int)) 0 else min v (n:Int))=((bU n d (some v):Nat):Int):=by
 show (if v<0 then max (v+(n:Int)) 0 else min v (n:Int))=(((if v<0 then (v+(n:Int)).toNat else min v.toNat n):Nat):Int)
 by_cases hv:v<0
 . simp only[fN hv];lia
 . simp only[fR hv];lia
theorem vH(lo hi:Option Int)(n:Nat):Builtin.Slice.sliceAdjust lo hi 1 (n:Int)=(((bU n 0 lo:Nat):Int),((bU n n hi:Nat):Int)):=by
 have h1 : ¬ ((1:Int)<0):=by lia
 unfold Builtin.Slice.sliceAdjust;simp only[h1,CF];refine Prod.ext ?_ ?_
 .
  cases lo with
  |none=>rfl
  |some v=>exact xJ v n 0
 .
  cases hi with
  |none=>rfl
  |some v=>exact xJ v n n
theorem vI(i j:Nat):Builtin.Slice.slicePlaces (i:Int) (j:Int) 1=j - i:=by
 unfold Builtin.Slice.slicePlaces;have h1:(1:Int) > 0:=by lia
 simp only[h1,Ap,Int.ediv_one];split <;> lia
theorem jg(p:IsPart v o)(h:Q o s):wpAny (model prog w) A (Builtin.Slice.slicePartIndex v) Q E s:=by
 cases p with
 |none=>exact slicePart_none h
 |int i t=>exact slicePart_int h
theorem fB{sl:Addr}{vl vu:Value}{lo hi:Option Int}{n:Nat}{Q:Int×Int×Nat->Shared->Prop}(hs:s.heap.IsSliceOf sl vl vu .none)(pl:IsPart vl lo)(pu:IsPart vu hi)
  (h:Q (((bU n 0 lo:Nat):Int),1,bU n n hi - bU n 0 lo) s):wpAny (model prog w) A (Builtin.Slice.sliceApplied (.ref sl) (pure (n:Int))) Q E s:=by
 obtain⟨os,hos,hcs,hds⟩:=id hs;unfold Builtin.Slice.sliceApplied Builtin.Slice.sliceFields;refine aS (aS (l8 hos hds (x:=vl) rfl (aS (l8 hos hds (x:=vu) rfl (aS (l8 hos hds (x:=.none) rfl (dL ?_)))))));refine aS (slicePart_none ?_);show wpAny _ _ (if ((1:Int)==0)=true then _ else _) _ _ s
 rw[fR ⋯];refine aS (jg pl (aS (jg pu (aS (dL ?_)))));show wpAny _ _ (match Builtin.Slice.sliceAdjust lo hi 1 (n:Int)with | (lo,hi)=>pure (lo,(1:Int),Builtin.Slice.slicePlaces lo hi 1)) _ _ s
 rw[vH lo hi n];show wpAny _ _ (pure (((bU n 0 lo:Nat):Int),(1:Int),Builtin.Slice.slicePlaces ((bU n 0 lo:Nat):Int) ((bU n n hi:Nat):Int) 1)) _ _ s;rw[vI];exact dL h
theorem Ci(xs:Array Value)(i k:Nat):((List.range k).filterMap λ(m:Nat)=>xs[((i:Int)+(m:Int) * 1).toNat]?).toArray=((xs.toList.drop i).take k).toArray:=by
 have e:(λ(m:Nat)=>xs[((i:Int)+(m:Int) * 1).toNat]?)=λm=>xs[i+m]?:=by
  funext m
  have:((i:Int)+(m:Int) * 1).toNat=i+m:=by lia
  rw[this]
 rw[e];have:=pick_run xs i k;rw[List.filterMap_map]at this;have e2:((λx=>xs[x]?) ∘ λx=>i+x)=λm=>xs[i+m]?:=rfl
 rw[e2]at this;rw[this]
theorem jH{t sl:Addr}{items:Array Value}{vl vu:Value}{lo hi:Option Int}{Q:Value->Shared->Prop}(ht:IsTup s.heap t items)(hs:s.heap.IsSliceOf sl vl vu .none)(pl:IsPart vl lo)(pu:IsPart vu hi)
  (hw : ¬ (bU items.size 0 lo=0/\bU items.size items.size hi=items.size))
  (h:Q (.ref s⁻¹) { s with heap:=s.heap.push { cls:=.type "tuple",data:=.seq ((items.toList.drop (bU items.size 0 lo)).take (bU items.size items.size hi - bU items.size 0 lo)).toArray}})
  (jy:items.size<=sizeLine):wpAny (model prog w) A (getItem (.ref t) (.ref sl)) Q E s:=by
 have jI:sizeOk (.seq ((items.toList.drop (bU items.size 0 lo)).take (bU items.size items.size hi - bU items.size 0 lo)).toArray):=by show ((items.toList.drop (bU items.size 0 lo)).take (bU items.size items.size hi - bU items.size 0 lo)).toArray.size<=sizeLine;rw[dC,t9,List.length_drop,mM];lia
 have hj:bU items.size items.size hi<=items.size:=Oc _ _ (d5 _) hi;obtain⟨os,hos,hcs,hds⟩:=id hs;have Vk:s.TypeIs (.ref sl) "slice" :=⟨os,hos,hcs⟩;unfold getItem
 try with_reducible refine mB ?_
 first |refine aS (dL ?_) |skip
 refine aS (wpAny_sequenceKey ht.typeIs ⋯ ?_);refine aS (oQ (name:=Str.ofString "__getitem__") ht.typeIs nK
  (rV nK ht.typeIs entry_tuple_getitem ?_ (args_tuple_getitem _ _)))
 show wpAny _ _ (Builtin.Tuple.tupleItemsOf (.ref t) >>= _) _ _ s;refine aS (tupleItemsOf_ ht ?_);refine aS (Co Vk ?_);rw[fN ⋯];refine aS (fB hs pl pu ?_);have hno : ¬ ((((bU items.size 0 lo:Nat):Int)==0&&(1:Int)==1&&(bU items.size items.size hi - bU items.size 0 lo)==items.size)=true):=by intro q;rw[eP,eP]at q;have q1:((bU items.size 0 lo:Nat):Int)=0:=eq_of_beq q.1.1;have q2:bU items.size items.size hi - bU items.size 0 lo=items.size:=eq_of_beq q.2;exact hw ⟨by lia,by lia⟩
 show wpAny _ _ (if (((bU items.size 0 lo:Nat):Int)==0&&(1:Int)==1&&(bU items.size items.size hi - bU items.size 0 lo)==items.size)=true then _ else _) _ _ s
 rw[fR hno,Ci]
 first
  |exact aS (m:=Builtin.Tuple.tupleExact _) (l7 (dL ⟨_,rfl,dL h⟩) jI)
  |exact aS (m:=Builtin.Tuple.tupleExact _) (l7 (aS (dL (dL ⟨_,rfl,dL h⟩))) jI)
  |exact aS (aS (m:=Builtin.Tuple.tupleExact _) (l7 (dL (dL ⟨_,rfl,dL h⟩)) jI))
  |exact aS (aS (m:=Builtin.Tuple.tupleExact _) (l7 (dL ⟨_,rfl,dL h⟩) jI))
end
end HT
namespace L2
abbrev TO:=St->Hp->(Option Int->Hp->Prop)->Prop
def PO(X:Cx)(e:Option Expr)(t:TO):Prop:=
 ∀(ah:List (Addr×Obj)) (s:Shared) (σ:St) (H:Hp) (Q:Option Int->Hp->Prop),Inv X ah σ H s->t σ H Q->
  wpAny (model X.prog X.w) X.A (evalPart e X.env) (λu s'=>∃o H',Inv X ah σ H' s'/\IsPart u o/\Q o H') X.xe s
def Ie:TO:=λ_ H Q=>Q none H
def Vl(t:TE):TO:=λσ H Q=>t σ H λx H1=>∃i,x=.int i/\Q (some i) H1
theorem intsAre_of:∀{us:List Value},Vals (ns.map V.int) us->IntsAre us ns:=by
 induction ns with
 |nil=>intro us r;rw[List.map_nil]at r;cases r;exact .nil
 |cons n ns ih=>
  intro us r;rw[List.map_cons]at r;cases r with
  |cons r1 r2=>obtain⟨t,e⟩:=r1;subst e;exact .cons n t (ih r2)
section
variable{X:Cx}{e:Expr}{te:TE}{lo hi:Option Expr}{tl th:TO}{pos p2:Pos}
theorem Ig:PO X none Ie:=by intro ah s σ H Q I h;rw[evalPart_none];exact dL ⟨none,H,I,.none,h⟩
theorem Ih(h:PE X e te):PO X (some e) (Vl te):=by
 intro ah s σ H Q I hw;rw[evalPart_some];refine bQ (h ah s σ H _ I hw) λu s1 ⟨x,H1,I1,r1,q1⟩=>?_
 obtain⟨i,rfl,q⟩:=q1;obtain⟨t,rfl⟩:=r1;exact⟨some i,H1,I1,.int i t,q⟩
def X6(X:Cx)(r:V->Option Int->Option Int->Hp->VK->Prop):Prop:=
 ∀(ah:List (Addr×Obj)) (s:Shared) (σ:St) (H:Hp) (x:V) (v vl vu:Value) (lo hi:Option Int) (sl:Addr) (Q:VK),Inv X ah σ H s->RelV x v->s.heap.IsSliceOf sl vl vu .none->IsPart vl lo->IsPart vu hi->r x lo hi H Q->
  ∃T id,typeLookup (.type T) "__getitem__"=pure (some (.builtin id))/\s.TypeIs v T/\wpAny (model X.prog X.w) X.A (getItem v (.ref sl)) (EP X ah σ Q) X.xe s
noncomputable def tSl(r:V->Option Int->Option Int->Hp->VK->Prop)(te:TE)(tl th:TO):TE:=λσ H Q=>te σ H λx H1=>tl σ H1 λl H2=>th σ H2 λu H3=>r x l u H3 Q
theorem mW{r:V->Option Int->Option Int->Hp->VK->Prop}(hr:X6 X r)(he:PE X e te)(hl:PO X lo tl)(hu:PO X hi th):PE X (.Subscript e (.Slice lo hi none p2) pos) (tSl r te tl th):=by
 intro ah s σ H Q I h;refine Subscript_ (bQ (he ah s σ H _ I h) λv s1 ⟨x,H1,I1,r1,q1⟩=>?_)
 refine wpAny_Slice (bQ (hl ah s1 σ H1 _ I1 q1) λvl s2 ⟨l,H2,I2,pl,q2⟩=>bQ (hu ah s2 σ H2 _ I2 q2) λvu s3 ⟨u,H3,I3,pu,q3⟩=>?_)
 rw[evalPart_none];refine dL ?_;have I4:Inv X ah σ H3 { s3 with heap:=s3.heap.push { cls:=.type "slice",data:=.fields #[vl,vu,.none]}}:=I3.kept (t':=s3.toks) λb ob q=>bP _ q
 obtain⟨T,id,hT,ht,hg⟩:=hr ah { s3 with heap:=s3.heap.push { cls:=.type "slice",data:=.fields #[vl,vu,.none]}} σ H3 x v vl vu l u s3⁻¹ Q I4 r1 (Heap.IsSliceOf.new ..) pl pu q3;show wpAny (model X.prog X.w) X.A (subscriptTail e (.Slice lo hi none p2) v (.ref s3⁻¹)) (EP X ah σ Q) X.xe { s3 with heap:=s3.heap.push { cls:=.type "slice",data:=.fields #[vl,vu,.none]}};exact tail_any (ops:=[.ref s3⁻¹,v]) ht hT hg (by with_unfolding_all rfl)
def qV(xs:List V)(lo hi:Option Int):List V:=(xs.drop (HT.bU xs.length 0 lo)).take (HT.bU xs.length xs.length hi - HT.bU xs.length 0 lo)
theorem lg(xs:List V)(lo hi:Option Int):(qV xs lo hi).length<=xs.length:=by unfold qV;rw[t9,List.length_drop];lia
def Zu(K:Frag):V->Option Int->Option Int->Hp->VK->Prop:=λx lo hi H Q=>∃a xs,x=.ref a/\gi K H a xs/\
 ¬ (HT.bU xs.length 0 lo=0/\HT.bU xs.length xs.length hi=xs.length)/\∀p,H p=none->Q (.ref p) (upd H p (.tup (qV xs lo hi)))
theorem Od:X6 X (Zu X.K):=by
 intro ah s σ H x v vl vu lo hi sl Q I rx hs pl pu h;obtain⟨a,xs,rfl,hx,hw,q⟩:=h;cases rx;obtain⟨its,r,ht,hz⟩:=I.tuple hx;have aJ:its.toArray.size=xs.length:=by rw[dC];exact r.length.symm
 refine⟨"tuple",_,PyProof.Rows.slot_tuple_getitem.lookup,ht.typeIs,?_⟩;refine HT.jH ht hs pl pu (by rw[aJ];exact hw) ?_ (by rw[aJ];exact hz)
 rw[aJ];refine⟨.ref s⁻¹,_,I.laid (t':=s.toks) (o:=.tup (qV xs lo hi)) (λb ob q=>bP _ q) (d5 _) ?_,rfl,q _ (I.hok.fresh (d5 _))⟩
 exact⟨l6 (lg xs lo hi) hz,_,(r.drop (HT.bU xs.length 0 lo)).take (HT.bU xs.length xs.length hi - HT.bU xs.length 0 lo),eu.new _ _⟩
def Zv(K:Frag):R2:=λx y H Q=>∃a b ns ms,x=.ref a/\y=.ref b/\gi K H a (ns.map V.int)/\gi K H b (ms.map V.int)/\Q (.bl (HT.lexLt ns ms)) H
theorem Oe(hu:X.A.units<cLine):k9 X (compareOp .Lt) (Zv X.K):=by intro ah s σ H x y v u Q I rx ry h;obtain⟨a,b,ns,ms,rfl,rfl,ha,hb,q⟩:=h;cases rx;cases ry;obtain⟨its,r1,p1,_⟩:=I.tuple ha;obtain⟨jY,r2,p2,_⟩:=I.tuple hb;have i1:IntsAre its.toArray.toList ns:=intsAre_of r1;have i2:IntsAre jY.toArray.toList ms:=intsAre_of r2;exact HT.vG p1 p2 i1 i2 hu ⟨.bl (HT.lexLt ns ms),H,I,rfl,q⟩
def Vm(K:Frag):R2:=λx y H Q=>∃a b xs ys,x=.ref a/\y=.ref b/\gi K H a xs/\gi K H b ys/\xs≠[]/\xs.length+ys.length<=sizeLine/\
 (ys=[]->Q (.ref a) H)/\(ys≠[]->∀p,H p=none->Q (.ref p) (upd H p (.tup (xs++ys))))
theorem Vals.qW(r:Vals xs us):us=[] ↔ xs=[]:=by
 cases r with
 |nil=>simp
 |cons _ _=>simp
theorem Ii:k9 X (binaryOp .Add) (Vm X.K):=by
 intro ah s σ H x y v u Q I rx ry h;obtain⟨a,b,xs,ys,rfl,rfl,ha,hb,hx,hz,q1,q2⟩:=h;cases rx;cases ry;obtain⟨its,r1,p1,_⟩:=I.tuple ha;obtain⟨jY,r2,p2,_⟩:=I.tuple hb;refine HT.Ic p1 p2 (λz=>hx (r1.qW.mp z)) (λz=>⟨.ref a,H,I,rfl,q1 (r2.qW.mp z)⟩) (λz=>?_) (by rw[<- r1.length,<- r2.length];exact hz)
 refine⟨.ref s⁻¹,_,I.laid (t':=s.toks) (o:=.tup (xs++ys)) (λb ob q=>bP _ q) (d5 _) ?_,rfl,q2 (λw=>z (r2.qW.mpr w)) _ (I.hok.fresh (d5 _))⟩
 exact⟨by rw[gL];exact hz,_,r1.append r2,eu.new _ _⟩
end
noncomputable def oZ(n:Nat)(i:Int):Option Nat:=if 0<=i then (if i<n then some i.toNat else none)else if -(n:Int)<=i then some (i+n).toNat else none
def fQ{α:Type}(xs:List α)(i:Int):Option α:=(oZ xs.length i).bind λj=>xs[j]?
theorem qX(h:oZ n i=some j):seqIndex? i n=some j/\j<n/\-(n:Int)<=i/\i<n:=by
 unfold oZ at h;by_cases h0:0<=i
 .
  rw[fN h0]at h;by_cases h1:i<n
  . rw[fN h1]at h;have e:i.toNat=j:=n0 h;exact⟨by rw[seqIndex_of h0 h1,e],by lia,by lia,h1⟩
  . rw[fR h1]at h;cases h
 .
  rw[fR h0]at h;by_cases h1 : -(n:Int)<=i
  . rw[fN h1]at h;have e:(i+n).toNat=j:=n0 h;exact⟨by rw[seqIndex_neg ⋯ h1,e],by lia,h1,by lia⟩
  . rw[fR h1]at h;cases h
theorem xK{α:Type}{xs:List α}{i:Int}{v:α}(h:fQ xs i=some v):∃j,seqIndex? i xs.length=some j/\xs[j]?=some v/\j<xs.length/\-(xs.length:Int)<=i/\i<xs.length:=by
 unfold fQ at h;cases e:oZ xs.length i with
 |none=>rw[e]at h;cases h
 |some j=>rw[e]at h;obtain⟨h1,h2,h3,h4⟩:=qX e;exact⟨j,h1,h,h2,h3,h4⟩
def qY(b:Expr):Prop:=∀o i,subscripted b false o i=operate [o,i] (getItem o i)
def X7(X:Cx)(r:R2):Prop:=
 ∀(value slice:Expr) (ah:List (Addr×Obj)) (s:Shared) (σ:St) (H:Hp) (x y:V) (v u:Value) (Q:VK),Inv X ah σ H s->RelV x v->RelV y u->r x y H Q->
  subscripted slice false v u=operate [v,u] (getItem v u)->wpAny (model X.prog X.w) X.A (subscriptTail value slice v u) (EP X ah σ Q) X.xe s
def MtR(X:Cx)(id:String)(r:V->List V->Hp->VK->Prop):Prop:=
 ∀(ah:List (Addr×Obj)) (s:Shared) (σ:St) (H:Hp) (x:V) (xs:List V) (v:Value) (us:List Value) (Q:VK),Inv X ah σ H s->RelV x v->Vals xs us->r x xs H Q->
  wpAny (model X.prog X.w) X.A (call (.builtin id) (v::us)) (EP X ah σ Q) X.xe s
section
variable{X:Cx}{a b:Expr}{ta tb:TE}{pos:Pos}
theorem Mk{r:R2}(hr:X7 X r)(ha:PE X a ta)(hb:PE X b tb)(hs:qY b):PE X (.Subscript a b pos) (X4 r ta tb):=by intro ah s σ H Q I h;exact Subscript_ (N3 ha hb I h λv u s2 x y H2 I2 rx ry q=>hr a b ah s2 σ H2 x y v u Q I2 rx ry q (hs _ _))
def Zw(K:Frag):R2:=λx y H Q=>∃p xs i v,x=.ref p/\y=.int i/\bX K H p xs/\fQ xs i=some v/\Q v H
def Zx(K:Frag):R2:=λx y H Q=>∃p xs i v,x=.ref p/\y=.int i/\gi K H p xs/\fQ xs i=some v/\Q v H
theorem qZ:X7 X (Zw X.K):=by
 intro value slice ah s σ H x y v u Q I rx ry h hs;obtain⟨p,xs,i,z,rfl,rfl,hq,he,q⟩:=h;cases rx;obtain⟨t,rfl⟩:=ry;obtain⟨its,r,pl,hz⟩:=I.list hq;obtain⟨j,h1,h2,h3,h4,h5⟩:=xK he;obtain⟨w,ew,rw'⟩:=r.get h2;have hl:=r.length;have hn:=mS;have fin:EP X ah σ Q w s:=⟨z,H,I,rw',q⟩;by_cases h0:0<=i
 .
  have hj:i.toNat=j:=by rw[seqIndex_of h0 h5]at h1;exact n0 h1
  exact item_listR pl.isList h0 ⋯ (by rw[hj];simpa using ew) fin hs
 .
  have hj:(i+(its.toArray.size:Int)).toNat=j:=by rw[seqIndex_neg ⋯ h4]at h1;rw[dC,<- hl];exact n0 h1
  exact subscriptTail_builtinR (x:=w) pl.isList.typeIs slot_list_getitem.lookup
   (wpAny_getItem_list_neg (Q:=λr s'=>r=w/\EP X ah σ Q r s') pl.isList ⋯ (by rw[dC] <;> lia) ⋯ (by rw[hj];simpa using ew) ⟨rfl,fin⟩) hs
theorem Og:X7 X (Zx X.K):=by
 intro value slice ah s σ H x y v u Q I rx ry h hs;obtain⟨p,xs,i,z,rfl,rfl,hq,he,q⟩:=h;cases rx;obtain⟨t,rfl⟩:=ry;obtain⟨its,r,pl,hz⟩:=I.tuple hq;obtain⟨j,h1,h2,h3,h4,h5⟩:=xK he;obtain⟨w,ew,rw'⟩:=r.get h2;have hl:=r.length;have hn:=mS;have fin:EP X ah σ Q w s:=⟨z,H,I,rw',q⟩;exact subscriptTail_builtinR (x:=w) pl.typeIs slot_tuple_getitem.lookup
  (getItem_tuple (j:=j) (Q:=λr s'=>r=w/\EP X ah σ Q r s') pl ⋯ ⋯ (by rw[dC,<- hl];exact h1) (by simpa using ew) ⟨rfl,fin⟩) hs
theorem vJ(its:List Value)(n j:Nat)(u:Value):Obj.mapSeq (·.setIfInBounds j u) { cls:=.type "list",data:=.seq its.toArray n}={ cls:=.type "list",data:=.seq (its.set j u).toArray n}:=by simp[Obj.mapSeq]
theorem Inv.lst{ah:List (Addr×Obj)}{σ:St}{H:Hp}{s:Shared}{p:Addr}{xs:List V}(I:Inv X ah σ H s)(h:H p=some (.lst xs)) :
  ∃(its:List Value) (n:Nat),Vals xs its/\s.heap.get? p=some { cls:=.type "list",data:=.seq its.toArray n}/\xs.length<=sizeLine:=by
 obtain⟨z,its,n,r,e⟩:=I.hok p _ h;exact⟨its,n,r,e,z⟩
theorem Inv.Oh{ah:List (Addr×Obj)}{σ:St}{H:Hp}{s:Shared}{p:Addr}{xs ys:List V}{its its':List Value}{n n':Nat}{f:Obj->Obj}(I:Inv X ah σ H s)(h:H p=some (.lst xs))
  (ho:s.heap.get? p=some { cls:=.type "list",data:=.seq its.toArray n}) (hf:f { cls:=.type "list",data:=.seq its.toArray n}={ cls:=.type "list",data:=.seq its'.toArray n'}) (r:Vals ys its') (hz:ys.length<=sizeLine) (t:Nat) :
  Inv X ah σ (upd H p (.lst ys)) { s with heap:=s.heap.update p f,toks:=t}:=by
 have e:(s.heap.update p f).get? p=some { cls:=.type "list",data:=.seq its'.toArray n'}:=by rw[t0 f ho (by rw[hf] <;> rfl),hf]
 refine I.write (x:=p) (e:=p) (by rw[h];trivial) (.inl rfl) (λb u hb q=>(i9 _ _ (nN hb)).trans q) ⟨_,e⟩ ?_
 exact⟨hz,its',n',r,e⟩
def Vn:V->V->V->Hp->(Hp->Prop)->Prop:=λo i v H Q=>∃p xs k j,o=.ref p/\i=.int k/\H p=some (.lst xs)/\oZ xs.length k=some j/\Q (upd H p (.lst (xs.set j v)))
theorem set_list:U1 X Vn:=by
 intro ah s σ H o i v ov iv u Q I ro ri rv h;obtain⟨p,xs,k,j,rfl,rfl,hp,hj,q⟩:=h;cases ro;obtain⟨t,rfl⟩:=ri;obtain⟨its,n,r,ho,hz⟩:=I.lst hp;obtain⟨h1,h2,h3,h4⟩:=qX hj;have hl:=r.length;have hn:=mS;have I':Inv X ah σ (upd H p (.lst (xs.set j v))) { s with heap:=s.heap.update p (Obj.mapSeq (·.setIfInBounds j u))}:=
  I.Oh hp ho (vJ its n j u) (r.set rv j) (by rw[i4];exact hz) s.toks
 by_cases h0:0<=k
 .
  have hk:k.toNat=j:=by rw[seqIndex_of h0 h4]at h1;exact n0 h1
  exact PySem.W.ki_setAt ho h0 ⋯ (by rw[dC,<- hl];exact h4) (by rw[hk];exact⟨_,I',q⟩)
 .
  have hk:(k+(its.toArray.size:Int)).toNat=j:=by rw[seqIndex_neg ⋯ h3]at h1;rw[dC,<- hl];exact n0 h1
  exact PySem.W.ki_setBack ho ⋯ (by rw[dC,<- hl];exact h3) ⋯ (by rw[hk];exact⟨_,I',q⟩)
theorem rm(lo hi:Option Int)(n:Nat):(sliceBounds lo hi none n).1=((HT.bU n 0 lo:Nat):Int)/\(sliceBounds lo hi none n).2.1=((HT.bU n n hi:Nat):Int)/\(sliceBounds lo hi none n).2.2=1:=by
 refine⟨?_,?_,rfl⟩
 .
  cases lo with
  |none=>simp[sliceBounds,HT.bU]
  |some i=>
   simp only[sliceBounds,HT.bU,Option.getD_none,show (1:Int) > 0 by decide,Ap]
   by_cases h:i<0
   . simp only[h,Ap] <;> lia
   . simp only[h,CF] <;> lia
 .
  cases hi with
  |none=>simp[sliceBounds,HT.bU]
  |some i=>
   simp only[sliceBounds,HT.bU,Option.getD_none,show (1:Int) > 0 by decide,Ap]
   by_cases h:i<0
   . simp only[h,Ap] <;> lia
   . simp only[h,CF] <;> lia
theorem o7(its:List Value)(lo hi:Option Int):slicePick its.toArray lo hi none=((its.drop (HT.bU its.length 0 lo)).take (HT.bU its.length its.length hi - HT.bU its.length 0 lo)).toArray:=by obtain⟨h1,h2,h3⟩:=rm lo hi its.toArray.size;unfold slicePick;rw[h1,h2,h3];simp only[sliceRange_one,pick_run,dC] <;> rfl
def Zy(K:Frag):V->Option Int->Option Int->Hp->VK->Prop:=λx lo hi H Q=>∃a xs,x=.ref a/\bX K H a xs/\∀p,H p=none->Q (.ref p) (upd H p (.lst (qV xs lo hi)))
theorem xM:X6 X (Zy X.K):=by
 intro ah s σ H x v vl vu lo hi sl Q I rx hs pl pu h;obtain⟨a,xs,rfl,hx,q⟩:=h;cases rx;obtain⟨its,r,ht,hz⟩:=I.list hx;have aJ:=r.length;refine⟨"list",_,slot_list_getitem.lookup,ht.isList.typeIs,?_⟩;refine wpAny_getItem_list_slice ht.isList hs pl pu .none ⋯ ?_ (by rw[dC] <;> lia)
 rw[o7,<- aJ];refine⟨.ref s⁻¹,_,I.laid (t':=s.toks) (o:=.lst (qV xs lo hi)) (λb ob q=>bP _ q) (d5 _) ?_,rfl,q _ (I.hok.fresh (d5 _))⟩
 exact⟨l6 (lg xs lo hi) hz,_,0,(r.drop (HT.bU xs.length 0 lo)).take (HT.bU xs.length xs.length hi - HT.bU xs.length 0 lo),eD _ rfl⟩
theorem rq:eV X (.type "list") (λxs H Q=>∃p ys,xs=[.ref p]/\(bX X.K H p ys\/gi X.K H p ys)/\∀l,H l=none->Q (.ref l) (upd H l (.lst ys))):=by
 intro ah s σ H xs us Q I r h;obtain⟨p,ys,rfl,hq,q⟩:=h;obtain⟨u,rfl,rx⟩:=vals1 r;cases rx;have fin:∀(its:List Value),Vals ys its->ys.length<=sizeLine->∀(h':Heap) (c':Nat),(∀b o',s.heap.get? b=some o'->h'.get? b=some o')->
   h'.get? s⁻¹=some { cls:=.type "list",dict:=none,data:=.seq its.toArray c',slots:=#[]}->EP X ah σ Q (.ref s⁻¹) { s with heap:=h'}:=λits r' hz h' c' kp e=>
  ⟨.ref s⁻¹,_,I.laid (t':=s.toks) kp (d5 _) (show dz X.prog X.w _ h' _ (.lst ys)from⟨hz,its,c',r',e⟩),rfl,q _ (I.hok.fresh (d5 _))⟩
 rcases hq with hq |hq
 . obtain⟨its,r',pl,hz⟩:=I.list hq;have aJ:=r'.length;obtain⟨o,ho,hc,n,hd⟩:=pl.isList;exact call_list_seq p (.inl rfl) ho hc hd (λh' c' kp e=>fin its r' hz h' c' kp e) (by simp only[dC] <;> lia)
 . obtain⟨its,r',pl,hz⟩:=I.tuple hq;have aJ:=r'.length;obtain⟨o,ho,hc,n,hd⟩:=pl;exact call_list_seq p (.inr rfl) ho hc hd (λh' c' kp e=>fin its r' hz h' c' kp e) (by simp only[dC] <;> lia)
theorem o8:eV X (.type "tuple") (λxs H Q=>∃p ys,xs=[.ref p]/\((bX X.K H p ys/\∀l,H l=none->Q (.ref l) (upd H l (.tup ys)))\/(gi X.K H p ys/\Q (.ref p) H))):=by
 intro ah s σ H xs us Q I r h;obtain⟨p,ys,rfl,h⟩:=h;obtain⟨u,rfl,rx⟩:=vals1 r;cases rx;rcases h with ⟨hq,q⟩ |⟨hq,q⟩
 .
  obtain⟨its,r',pl,hz⟩:=I.list hq;have aJ:=r'.length;refine call_tuple_list pl.isList (λh' kp=>?_) (by simp only[dC] <;> lia)
  have I1:Inv X ah σ H { s with heap:=h'}:=I.kept (t':=s.toks) kp;have I2:Inv X ah σ (upd H h'.objs.size (.tup ys)) { s with heap:=h'.push { cls:=.type "tuple",data:=.seq its.toArray}}:=
   I1.laid (t':=s.toks) (λb o e=>bP _ e) (d5 _) (show dz X.prog X.w _ _ _ (.tup ys)from⟨hz,its,r',eu.new _ _⟩)
  exact⟨.ref h'.objs.size,_,I2,rfl,q _ (I1.hok.fresh (d5 _))⟩
 . obtain⟨its,r',pl,hz⟩:=I.tuple hq;exact call_tuple_same pl ⟨.ref p,H,I,rfl,q⟩
def tyV(K:Frag)(T:String)(x:V)(H:Hp):Prop:=match x with
 |.str _=>T = "str"
 |.int _=>T = "int"
 |.ref p=>(T = "list" /\∃xs,bX K H p xs)\/(T = "tuple" /\∃o,K.lookup p=some o/\o.cls=.type "tuple" /\o.dict=none)\/
   (T = "dict" /\((∃jf,H p=some (.dK jf))\/∃jf,H p=some (.dT jf)))\/(T = "set" /\∃S n,H p=some (.set S n))
 |_=>False
theorem Oi{ah:List (Addr×Obj)}{σ:St}{H:Hp}{s:Shared}{T:String}{x:V}{v:Value}(I:Inv X ah σ H s)(r:RelV x v)(ty:tyV X.K T x H) :
  s.TypeIs v T/\∀a,v=.ref a->∃ob,s.heap.get? a=some ob/\ob.dict=none:=by
 cases x with
 |str z=>
  obtain⟨t,rfl⟩:=r;cases (show T = "str" from ty)
  exact⟨typeIs_str s z t,λ_ e=>nomatch e⟩
 |int i=>
  obtain⟨t,rfl⟩:=r;cases (show T = "int" from ty)
  exact⟨typeIs_int s i t,λ_ e=>nomatch e⟩
 |ref p=>
  cases r;rcases ty with ⟨rfl,xs,hq⟩ |⟨rfl,o,hk,hc,hd⟩ |⟨rfl,hk⟩ |⟨rfl,S,n,hk⟩
  .
   obtain⟨its,_,pl,_⟩:=I.list hq;refine⟨pl.isList.typeIs,λa e=>?_⟩
   cases e;obtain⟨o,n,e,c,hd,_⟩:=pl;exact⟨o,e,hd⟩
  .
   refine⟨⟨o,I.lT p o hk,hc⟩,λa e=>?_⟩
   cases e;exact⟨o,I.lT _ o hk,hd⟩
  .
   have z:∃o,s.heap.get? p=some o/\o.ExactDict:=by
    rcases hk with ⟨jf,hk⟩ |⟨jf,hk⟩
    . obtain⟨_,_,_,_,o,_,_,e,ex,_⟩:=I.hok p _ hk;exact⟨o,e,ex⟩
    . obtain⟨_,_,_,_,o,_,_,e,ex,_⟩:=I.hok p _ hk;exact⟨o,e,ex⟩
   obtain⟨o,e,ex⟩:=z;refine⟨⟨o,e,ex.1⟩,λa e2=>?_⟩
   cases e2;exact⟨o,e,ex.2.1⟩
  .
   obtain⟨o,_,_,_,e,ex,_⟩:=I.hok p _ hk;refine⟨⟨o,e,ex.1⟩,λa e2=>?_⟩
   cases e2;exact⟨o,e,ex.2.1⟩
 |_=>exact False.elim ty
def tBM(K:Frag)(T:String)(r:V->List V->Hp->VK->Prop)(to:TE)(t:TA):TE:=λσ H Q=>to σ H λx H1=>tyV K T x H1/\t σ H1 λxs H2=>r x xs H2 Q
variable{o e:Expr}{es:List Expr}{to:TE}{t:TA}{name:Str}{bH aU:Pos}{T id:String}{r:V->List V->Hp->VK->Prop}
theorem tE(pa:PlainAttrs T)(slot:Slot T name id)(hty:typeOf (.builtin id)=pure (.type "method_descriptor"))(hm:MtR X id r)(ho:PE X o to)(ha:PA X (e::es) t)
  (hbase:attributeBase o name X.env (eval o X.env)=eval o X.env:=by rfl)
  (hfew:((backTo aU (starEach (e::es) X.env)).all (λx=>!x.1)&&(backToKw aU (keywordEach [] X.env)).all (λx=>x.1.isSome)
   && decide ((e::es).length+([]:List Keyword).length+(if ([]:List Keyword).isEmpty then 0 else 1)<30))=true:=by rfl)
  (hline:(bH.endLine==aU.line)=true:=by rfl) (hs:starEach (e::es) X.env=(false,eval e X.env)::starEach es X.env:=by rfl) (hplain:(backTo aU (starEach es X.env)).any (·.1)=false:=by rfl) :
  PE X (.Call (.Attribute o name bH) (e::es) [] aU) (tBM X.K T r to t):=by
 intro ah s σ H Q I h;refine wpAny_Call_method_late hbase hfew hline rfl (bQ (ho ah s σ H _ I h) λv s1 ⟨x,H1,I1,r1,ty,q1⟩=>?_)
 obtain⟨h1,h2⟩:=Oi I1 r1 ty;refine⟨T,id,pa,slot,hty,h1,h2,?_⟩;have hA:=ha aU ah s1 σ H1 _ I1 q1;rw[hs]at hA ⊢
 refine Calls.callWith_builtin (by show (false||(backTo aU (starEach es X.env)).any (·.1))=false;rw[hplain] <;> rfl) (Calls.evalArgs_plain ?_)
 exact bQ hA λus s2 ⟨vs,H2,I2,r2,q2⟩=>hm ah s2 σ H2 x vs v us Q I2 r1 r2 q2
/- xs.append(e),list.index on a module's tuple .. are MtR facts of 06m -/
end
def Zz(X:Cx)(id:String)(r:V->List V->Hp->VK->Prop):Prop:=
 ∀(ah:List (Addr×Obj)) (s:Shared) (σ:St) (H:Hp) (x:V) (xs:List V) (v:Value) (us:List Value) (Q:VK),Inv X ah σ H s->RelV x v->Vals xs us->r x xs H Q->
  wpAny (model X.prog X.w) X.A (call (.builtin id) (v::us)) (EP X ah σ Q) X.xe s
theorem Vals.one:∀{x:V}{us:List Value},Vals [x] us->∃u,us=[u]/\RelV x u
 |_,_,.cons r .nil=>⟨_,rfl,r⟩
theorem Vals.eraseIdx:∀{xs:List V}{us:List Value} (i:Nat),Vals xs us->Vals (xs.eraseIdx i) (us.eraseIdx i)
 |_,_,_,.nil=>.nil
 |_,_,0,.cons _ t=>t
 |_,_,i+1,.cons r t=>.cons r (Vals.eraseIdx i t)
theorem Vals.reverse{xs:List V}{us:List Value}(h:Vals xs us):Vals xs.reverse us.reverse:=by
 induction h with
 |nil=>exact .nil
 |cons r t ih=>rw[BA,BA];exact Vals.append ih (.cons r .nil)
theorem Vals.rep(h:Vals xs us):∀k:Nat,Vals (List.replicate k xs).flatten (List.replicate k us).flatten
 | 0=>.nil
 |k+1=>by
  rw[l9,l9,sK,sK];exact Vals.append h (Vals.rep h k)
theorem p8{α:Type}:∀(l:List α) (i:Nat),(l.eraseIdx i).length<=l.length
 | [],_=>d5 _
 |_::_,0=>AC _
 |_::r,i+1=>Nat.succ_le_succ (p8 r i)
theorem foldl_rep(its:List Value):∀(k:Nat) (acc:List Value),
  List.foldl (λx1 x2=>x1++x2) acc.toArray (List.replicate k its.toArray)=(acc++(List.replicate k its).flatten).toArray
 | 0,acc=>by simp
 |k+1,acc=>by
  have e:acc.toArray++its.toArray=(acc++its).toArray:=by simp
  have e2:(acc++its)++(List.replicate k its).flatten=acc++(List.replicate (k+1) its).flatten:=by rw[l9,sK,AH]
  rw[<- e2,<- foldl_rep its k (acc++its),<- e,l9,List.foldl_cons]
section
variable{X:Cx}{ah:List (Addr×Obj)}{σ:St}{H:Hp}{s:Shared}{l b:Addr}{xs ys zs:List V}
theorem Inv.Oj{its its':List Value}{n:Nat}{f:Array Value->Array Value}{t':Nat}(I:Inv X ah σ H s)(hH:H l=some (.lst xs))
  (e:s.heap.get? l=some { cls:=.type "list",data:=.seq its.toArray n}) (hf:f its.toArray=its'.toArray) (hv:Vals ys its') (hz:ys.length<=sizeLine) :
  Inv X ah σ (upd H l (.lst ys)) { s with heap:=s.heap.update l (Obj.mapSeq f),toks:=t'}:=by
 have q:=PySem.IsL.update e f;rw[hf]at q;refine I.write (x:=l) (e:=l) (by rw[hH];exact trivial) (.inl rfl) (λb' u hb hu=>(i9 s.heap (Obj.mapSeq f) (nN hb)).trans hu) ⟨_,q⟩ ?_
 exact⟨hz,its',_,hv,q⟩
theorem Inv.Vo(I:Inv X ah σ H s)(hv:Vals ys its)(hz:ys.length<=sizeLine) :
  Inv X ah σ (upd H s⁻¹ (.lst ys)) { s with heap:=s.heap.push { cls:=.type "list",data:=.seq its.toArray},toks:=t'}:=
 I.laid (λ_ _ q=>bP _ q) (d5 _) ⟨hz,its,0,hv,eD _ rfl⟩
theorem Inv.fresh(I:Inv X ah σ H s):H s⁻¹=none:=I.hok.fresh (d5 _)
theorem Inv.vK(I:Inv X ah σ H s)(hH:H l=some (.lst xs)):xs.length<=sizeLine/\∃(its:List Value) (n:Nat),Vals xs its/\xs.length=its.length/\s.heap.get? l=some { cls:=.type "list",data:=.seq its.toArray n}:=by obtain⟨z,its,n,r,e⟩:=I.hok l _ hH;exact⟨z,its,n,r,r.length,e⟩
theorem tF(h:n<=sizeLine):Builtin.List.listTooLong n=false:=by unfold Builtin.List.listTooLong;exact nV ⋯
end
section
variable{X:Cx}
def Ij:V->List V->Hp->VK->Prop:=λx vs H Q=>∃l xs y,x=.ref l/\vs=[y]/\H l=some (.lst xs)/\xs.length<sizeLine/\Q .non (upd H l (.lst (xs++[y])))
theorem iF:Zz X "list.append" Ij:=by
 intro ah s σ H x vs v us Q I rx rv h;obtain⟨l,xs,y,rfl,rfl,hH,hz,q⟩:=h;cases rx;obtain⟨u,rfl,ru⟩:=rv.one;obtain⟨z,its,n,r,hl,e⟩:=I.vK hH;refine BB F.slot_list_append ⟨_,e,rfl⟩ F.entry_list_append (F.args_list_append_2 _ _) (PySem.list_append l its.toArray n u (by rw[dC];lia)) ⟨e,?_⟩
 refine⟨.non,_,I.Oj (its':=its++[u]) hH e ⋯ (r.append (.cons ru .nil)) ?_,rfl,q⟩;rw[gL,AD];lia
def Ik:V->List V->Hp->VK->Prop:=λx vs H Q=>∃l b xs zs,x=.ref l/\vs=[.ref b]/\H l=some (.lst xs)/\H b=some (.lst zs)/\xs.length+zs.length<=sizeLine/\Q .non (upd H l (.lst (xs++zs)))
theorem zh:Zz X "list.extend" Ik:=by
 intro ah s σ H x vs v us Q I rx rv h;obtain⟨l,b,xs,zs,rfl,rfl,hH,hB,hz,q⟩:=h;cases rx;obtain⟨u,rfl,ru⟩:=rv.one;cases ru;obtain⟨z,its,n,r,hl,e⟩:=I.vK hH;obtain⟨z2,jY,n2,r2,hl2,e2⟩:=I.vK hB;have jy:its.toArray.size+jY.toArray.size<=sizeLine:=by rw[dC,dC];lia
 have Cj : ¬ (!its.toArray.isEmpty&&Builtin.List.listTooLong (its.toArray.size+jY.toArray.size))=true:=by rw[tF jy,Bool.and_false];exact i7
 refine BB F.slot_list_extend ⟨_,e,rfl⟩ F.entry_list_extend (F.args_list_extend_2 _ _)
  (AutoSeq1.list_extend_list_list_0 l its.toArray n b jY.toArray n2 Cj (by rw[dC];lia) ⋯) ⟨e,e2,?_⟩
 refine⟨.non,_,I.Oj (its':=its++jY) hH e ⋯ (r.append r2) ?_,rfl,q⟩;rw[gL];lia
def Ol:V->List V->Hp->VK->Prop:=λx vs H Q=>∃l xs i k y,x=.ref l/\vs=[.int i]/\H l=some (.lst xs)/\-(2 ^ 63)<=i/\i<2 ^ 63/\seqIndex? i xs.length=some k/\xs[k]?=some y/\Q y (upd H l (.lst (xs.eraseIdx k)))
theorem Ck:Zz X "list.pop" Ol:=by
 intro ah s σ H x vs v us Q I rx rv h;obtain⟨l,xs,i,k,y,rfl,rfl,hH,h1,h2,hk,hy,q⟩:=h;cases rx;obtain⟨u,rfl,ru⟩:=rv.one;obtain⟨t,rfl⟩:=ru;obtain⟨z,its,n,r,hl,e⟩:=I.vK hH;obtain⟨w,hw,rw'⟩:=r.get hy;refine BB F.slot_list_pop ⟨_,e,rfl⟩ F.entry_list_pop (F.args_list_pop_2 _ _)
  (MeetsSeq.list_pop_at l its.toArray n i t k w (fitsIndex_both h1 h2) (by rw[dC,<- hl];exact hk) (by rw[<- Array.getElem?_toList];exact hw) (by rw[dC];lia)) ⟨e,?_⟩
 refine⟨y,_,I.Oj (its':=its.eraseIdx k) hH e ?_ (r.eraseIdx k) ?_,rw',q⟩
 . show its.toArray.eraseIdxIfInBounds k=(its.eraseIdx k).toArray;rw[List.eraseIdxIfInBounds_toArray]
 . have:=p8 xs k;lia
def ZC:R2:=λx y H Q=>∃l b xs zs,x=.ref l/\y=.ref b/\H l=some (.lst xs)/\H b=some (.lst zs)/\xs.length+zs.length<=sizeLine/\∀p,H p=none->Q (.ref p) (upd H p (.lst (xs++zs)))
theorem Om:k9 X (binaryOp .Add) ZC:=by
 intro ah s σ H x y v u Q I rx ry h;obtain⟨l,b,xs,zs,rfl,rfl,hH,hB,hz,q⟩:=h;cases rx;cases ry;obtain⟨z,its,n,r,hl,e⟩:=I.vK hH;obtain⟨z2,jY,n2,r2,hl2,e2⟩:=I.vK hB;refine PySem.P.add_list e e2 ?_ (by rw[dC,dC];lia)
 have ea:its.toArray++jY.toArray=(its++jY).toArray:=by simp
 rw[ea];exact⟨.ref _,_,I.Vo (t':=s.toks) (r.append r2) (by rw[gL];lia),rfl,q _ I.fresh⟩
def ZD:R2:=λx y H Q=>∃l k xs,x=.ref l/\y=.int k/\H l=some (.lst xs)/\-(2 ^ 63)<=k/\k<2 ^ 63/\xs.length * k.toNat<=sizeLine/\
 ∀p,H p=none->Q (.ref p) (upd H p (.lst (List.replicate k.toNat xs).flatten))
theorem len_rep{α:Type}(xs:List α)(k:Nat):(List.replicate k xs).flatten.length=k * xs.length:=by
 induction k with
 |zero=>simp
 |succ k ih=>rw[l9,sK,gL,ih,Nat.succ_mul,Nat.add_comm]
theorem Oo:k9 X (binaryOp .Mult) ZD:=by
 intro ah s σ H x y v u Q I rx ry h;obtain⟨l,k,xs,rfl,rfl,hH,h1,h2,hz,q⟩:=h;cases rx;obtain⟨t,rfl⟩:=ry;obtain⟨z,its,n,r,hl,e⟩:=I.vK hH;have aJ:its.toArray.size * k.toNat<=sizeLine:=by rw[dC,<- hl];exact hz
 have hcap : ¬ its.toArray.size * k.toNat > (2 ^ 63 - 1) / 8:=by
  have:(sizeLine:Nat)<=(2 ^ 63 - 1) / 8:=by decide
  lia
 have hfit : ¬ (!Builtin.List.listFitsIndex k)=true:=by rw[fitsIndex_both h1 h2];exact i7
 have Cj : ¬ Builtin.List.listTooLong (its.toArray.size * k.toNat)=true:=by rw[tF aJ];exact i7
 have hnew:List.foldl (λx1 x2=>x1++x2) #[] (List.replicate (if its.toArray.isEmpty=true then 0 else k.toNat) its.toArray)=(List.replicate k.toNat its).flatten.toArray:=by
  have f0:∀m:Nat,List.foldl (λx1 x2=>x1++x2) #[] (List.replicate m its.toArray)=(List.replicate m its).flatten.toArray:=λm=>by
   have:=foldl_rep its m [];rw[v6]at this;exact this
  rw[f0];cases its with
  |nil=>simp
  |cons a r'=>rw[fR ⋯]
 refine wpAny_binaryOp_repeat_ref (T:= "list") (U:= "int") ⋯ ⟨_,e,rfl⟩ (λs'=>typeIs_int s' k t) noFill_list_mul F.fills_int_mul F.slot_int_rmul repeat_list F.slot_int_index.lookup
  (BB F.slot_int_rmul (typeIs_int s k t) F.entry_int_rmul (F.args_int_rmul_2 _ _) (int___rmul___int_list k t l its.toArray n)
   ⟨e,rfl,⟨_,e,rfl⟩,BB F.slot_list_mul ⟨_,e,rfl⟩ F.entry_list_mul (F.args_list_mul_2 _ _) (AutoListH.list___mul___list_int_3 l its.toArray n k t hfit hcap Cj) ⟨e,?_⟩⟩)
 rw[hnew];exact⟨.ref _,_,I.Vo (t':=s.toks) (r.rep k.toNat) (by rw[len_rep,Nat.mul_comm];exact hz),rfl,q _ I.fresh⟩
end
end L2
namespace Att
open PySem PySem.W PySem.Calls PyProof.Rows
theorem lJ:∀(ns:List Int) (vs:List Value),WellAll P h vs (ns.map WData.int)->IntsAre vs ns:=by
 intro ns
 induction ns with
 |nil=>intro vs w;rw[List.map_nil]at w;cases w;exact .nil
 |cons n ns ih=>
  intro vs w;rw[List.map_cons]at w;cases w with
  |cons a b=>cases a;exact .cons _ _ (ih _ b)
theorem zj{l:OpenLaw}{n:Nat}(hn:l.most=some n){P:Params}{h:Heap}{args:List WData}{vals:List Value}
  (hpre:l.row.toRowW.claim.pre args=true) (hwl:WellAll P h vals args) :
  ∃a vs ns,vals=[Value.ref a]/\args=[WData.list (ns.map WData.int)]/\h.get? a=some { cls:=.type "list",data:=.seq vs.toArray}/\IntsAre vs ns/\ns.length<=n:=by
 have hsh:WShape.hasAll [] args [.list .int]=true:=(pre_splitW hpre).1;have hc:l.pre.holds [] { args:=args}=true:=(pre_splitW hpre).2;obtain⟨d,r,rfl,h1,h2⟩:=hasAllW_cons hsh;obtain rfl:=hasAllW_nil h2;obtain⟨xs,rfl,h3⟩:=hasW_list h1;obtain⟨ns,rfl⟩:=items_int h3;have aJ:ns.length<=n:=by
  unfold OpenLaw.pre at hc;have h4:(WTm.not (.lt (.lit (.int (n:Int))) (.len (.arg 0)))).holds [] { args:=[.list (ns.map .int)]}=true:=by have h4:=(holds_andW hc).1;rw[hn]at h4;exact h4
  have h5:=condW_of h4 (w_not (w_lt w_lit (w_len_list (w_arg rfl))));rw[eR]at h5;refine Nat.le_of_not_lt λq=>?_
  have q':(n:Int)<((ns.length:Nat):Int):=by lia
  first
   | (rw[u8 q']at h5;exact absurd h5 ⋯)
   | (simp at h5;lia)
 cases hwl with
 |cons w1 w2=>
  cases w2;cases w1 with
  |list ho hall=>exact⟨_,_,ns,rfl,rfl,ho,lJ ns _ hall,aJ⟩
theorem zm(l:OpenLaw)(args:List WData):l.row.toRowW.claim.post args (.bool true) args=true:=
 postW_of (r:=l.row.toRowW) (X:=(true==true))
  (show WShape.has [] (.bool true) .bool=true by first |rfl |decide |simp[WShape.has,WShape.arms,WShape.armsAll])
  (show (WTm.eq .res (.lit (.bool true))).value [] { args:=args,res:=some (.bool true),after:=args}=some (.bool (true==true))from w_eq_bool (w_res rfl) w_lit) rfl
theorem tG{l:OpenLaw}{n:Nat}{q:Program}{loose:List Str}{XP:(Str->Option Value)->Heap->Prop}{YP:World->Heap->Prop}{d:DefRec}
  (hn:l.most=some n) (gQ:d.params.defaults=[])
  (call:∀(w:World) (s₀ s₁:Shared) (mg mb:Str->Option Value) (fa:Addr) (o:Obj) (pm cd doc:Value) (a:Addr) (vs:List Value) (ns:List Int),
   Ground q loose [] XP w s₀ mg mb s₁.heap->YP w s₁.heap->
   s₁.heap.get? fa=some o->o.data=.func (docDef d.name d.params d.body d.scope pm cd doc)->s₁.heap.CodeRec cd d.name->mg d.name=some (.ref fa)->
   s₁.heap.get? a=some { cls:=.type "list",data:=.seq vs.toArray}->IntsAre vs ns->ns.length<=n->s₁.gens = #[]->
   codeAny (model l.prog w) callerA (.call (.ref fa) ⟨[.ref a],[]⟩) (λr s'=>r=.ok (.ret (.bool true))/\OldK s₁.heap s'.heap/\s'.os=s₁.os/\AllBare s'.gens) s₁) :
  WalkO q loose XP YP l.row.toRowW d [] (λf vs=>PySem.call f vs):=by
 intro w s₀ s₁ mg mb G Y fa o pm cd doc dV kV ho hd bI hD hmg hg args vals as hpre hlay hrd hwl hlo;obtain rfl:dV=.none:=Dflts.none hD gQ;obtain rfl:kV=.none:=Dflts.noKw hD;obtain⟨a,vs,ns,rfl,rfl,hobj,hints,aJ⟩:=zj hn hpre hwl;refine enter_call (BH (call w s₀ s₁ mg mb fa o pm cd doc a vs ns G Y ho (fd_plain hd) bI hmg hobj hints aJ hg) λr s' hq=>?_)
 obtain⟨rfl,h2,h3,h4⟩:=hq;exact⟨.inl ⟨.bool true,.bool true,[],rfl,λ_=>rfl,.bool true,zm l _,λ_=>⟨List.Pairwise.nil,λ_ hm=>(nomatch hm)⟩⟩,h2,h3,h4⟩
end Att
namespace L2
theorem iG:∀{vs:List Value}{ns:List Int},IntsAre vs ns->Vals (ns.map V.int) vs
 |_,_,.nil=>.nil
 |_,_,.cons n t h=>.cons ⟨t,rfl⟩ (iG h)
abbrev KOf{K:Frag}{h:Heap}(_:K.In h):Frag:=K
abbrev sP:zc:=λ_ _ _ _ _ _=>False
abbrev E0:XK:=λ_ _ _=>False
theorem Ml:Passes sP X E0:=λ_ _ _ _ _ _ _ h=>h.elim
structure Hs(K:Frag)(x qual:Str)(st:Stmt)(f:Addr)(fd:FuncData):Prop where
 ex:∃(oc:Value) (od:Option Addr) (kV doc pm:Value) (an:Option Addr) (bE ct:Value) (osl:Array (Option Value)),
  fd=PySem.W.fnOf x qual (iD st) (bA st) (aD st) .none kV doc pm an bE ct/\K.lookup f=some ⟨oc,od,.func fd,osl⟩/\PySem.W.codeIn K bE qual=true
 kp:PySem.W.keepIn K (.ref f)=true
section
variable{P:Program}{w:World}{K:Frag}{mg:Str->Option Value}{base:Heap}
theorem Oq{x qual:Str}{st:Stmt}{f:Addr}{oc:Value}{od an:Option Addr}{osl:Array (Option Value)}{kV doc pm bE ct:Value}(l:K.lookup f=some ⟨oc,od,.func (PySem.W.fnOf x qual (iD st) (bA st) (aD st) .none kV doc pm an bE ct),osl⟩)
  (c:PySem.W.codeIn K bE qual=true) (k:PySem.W.keepIn K (.ref f)=true):Hs K x qual st f (PySem.W.fnOf x qual (iD st) (bA st) (aD st) .none kV doc pm an bE ct):=⟨⟨oc,od,kV,doc,pm,an,bE,ct,osl,rfl,l,c⟩,k⟩
end
theorem o9{A B:Prop}(h:B):if false=true then A else B:=by rw[fR i7];exact h
theorem j6{A B:Prop}(h:A):if true=true then A else B:=by rw[fN rfl];exact h
noncomputable def Cx.block(X:Cx)(N:List Str)(scope:Scope)(cl:List (Str×Addr))(C:Addr)(s₀:Shared)(H₀:Hp)(fp:List Addr):Cx:=
 { X with N:=N,s₀:=s₀,H₀:=H₀,env:=compEnvC scope cl C X.env,outer:=X.stack,ex:=fp,fn:=λx=>scope.names.lookup x==some .local,pn:=[],xe:=λ_ _=>False}
structure Bk where
 cl:List (Str×Addr)
 C:Addr
 s₀:Shared
 H₀:Hp
 fp:List Addr
abbrev Cx.blk (X:Cx) (N:List Str) (scope:Scope) (b:Bk):Cx:=X.block N scope b.cl b.C b.s₀ b.H₀ b.fp
structure aM(sc scope:Scope):Prop where
 kind:scope.kind=.function
 rz:∀y∈scope.names,y.2≠.cell
 uniq:∀y∈scope.names,y.2=.local->scope.names.lookup y.1=some .local
 Vp:∀y∈scope.names,y.2=.free->scope.names.lookup y.1=some .free
 free:∀y∈scope.names,y.2=.free->sc.names.lookup y.1=some .cell\/sc.names.lookup y.1=some .free
theorem mem_of_lookup{α:Type}{x:Str}{v:α}:∀{l:List (Str×α)},l.lookup x=some v->(x,v)∈l
 | [],h=>by simp at h
 | (n,k)::r,h=>by
  cases hx:x==n with
  |true=>
   simp only[oD,hx]at h;cases h;have e:x=n:=by simpa using hx
   subst e;exact dA
  |false=>simp only[oD,hx]at h;exact b0 _ (mem_of_lookup h)
theorem gU{env:Env}{x:Str}:∀{names:List (Str×NameKind)},
  (names.map λ(n,k)=>if (k==NameKind.free&&env.scope.kind==.function&&env.kindOf n==some .cell)then (n,NameKind.cell)else (n,k)).lookup x
   = (names.lookup x).map λk=>if (k==NameKind.free&&env.scope.kind==.function&&env.kindOf x==some .cell)then NameKind.cell else k
 | []=>rfl
 | (n,k)::r=>by
  have ih:=@gU env x r;show List.lookup x ((if (k==NameKind.free&&env.scope.kind==.function&&env.kindOf n==some .cell)=true then (n,NameKind.cell)else (n,k))::_)=_
  cases hx:x==n with
  |true=>
   have e:x=n:=by simpa using hx
   subst e;by_cases hc:(k==NameKind.free&&env.scope.kind==.function&&env.kindOf x==some .cell)=true
   . rw[fN hc];simp only[oD,hx,AY,fN hc]
   . rw[fR hc];simp only[oD,hx,AY,fR hc]
  |false=>
   by_cases hc:(k==NameKind.free&&env.scope.kind==.function&&env.kindOf n==some .cell)=true
   . rw[fN hc];simp only[oD,hx];exact ih
   . rw[fR hc];simp only[oD,hx];exact ih
theorem mX(h:∀y∈scope.names,y.2=.free->∃c,env.cells.lookup y.1=some c) :
  ∃cl,closureFor scope env=pure cl/\(∀x c,cl.lookup x=some c->env.cells.lookup x=some c/\(x,NameKind.free)∈scope.names)/\∀y∈scope.names,y.2=.free->∃c,cl.lookup y.1=some c:=by
 have key:∀(names:List (Str×NameKind)) (acc:List (Str×Addr)),(∀y∈names,y.2=.free->∃c,env.cells.lookup y.1=some c)->
   ∃cl,(forIn names acc λ(x:Str×NameKind) (cs:List (Str×Addr))=>(match x with | (name,kind)=>if (kind==.free)=true then (do let c <- cellOf env name;pure (ForInStep.yield ((name,c)::cs)))else pure (ForInStep.yield cs):Sem (ForInStep (List (Str×Addr)))))=pure cl/\
    (∀x c,cl.lookup x=some c->acc.lookup x=some c\/(env.cells.lookup x=some c/\(x,NameKind.free)∈names))/\(∀y∈names,y.2=.free->∃c,cl.lookup y.1=some c)/\∀x c,acc.lookup x=some c->∃c',cl.lookup x=some c':=by
  intro names
  induction names with
  |nil=>intro acc _;exact⟨acc,rfl,λx c e=>.inl e,(λy hy=>nomatch hy),λx c e=>⟨c,e⟩⟩
  |cons y r ih=>
   intro acc hf;obtain⟨n,k⟩:=y;rw[List.forIn_cons];by_cases hk:(k==NameKind.free)=true
   .
    obtain⟨c,hc⟩:=hf (n,k) dA (by simpa using hk)
    have hc':env.cells.lookup n=some c:=hc;obtain⟨cl,e,h1,h2,h3⟩:=ih ((n,c)::acc) λy hy=>hf y (b0 _ hy)
    refine⟨cl,?_,λx c' q=>?_,λy hy X8=>?_,λx c' q=>?_⟩
    .
     have ec:cellOf env n=pure c:=by unfold cellOf;rw[hc']
     show ((if (k==NameKind.free)=true then (do let c <- cellOf env n;pure (ForInStep.yield ((n,c)::acc)))else pure (ForInStep.yield acc)) >>= _)=_
     rw[fN hk,ec];exact e
    .
     rcases h1 x c' q with z |⟨z1,z2⟩
     .
      cases hx:x==n with
      |true=>
       simp only[oD,hx]at z;cases z;have e:x=n:=by simpa using hx
       subst e;have ek:k=NameKind.free:=by simpa using hk
       subst ek;exact .inr ⟨hc',dA⟩
      |false=>simp only[oD,hx]at z;exact .inl z
     . exact .inr ⟨z1,b0 _ z2⟩
    .
     rcases d0.mp hy with rfl |hy
     . exact h3 n c ⋯
     . exact h2 y hy X8
    .
     cases hx:x==n with
     |true=>
      have e:x=n:=by simpa using hx
      subst e;exact h3 x c ⋯
     |false=>exact h3 x c' (by simp only[oD,hx];exact q)
   .
    obtain⟨cl,e,h1,h2,h3⟩:=ih acc λy hy=>hf y (b0 _ hy)
    refine⟨cl,?_,λx c' q=>?_,λy hy X8=>?_,h3⟩
    .
     show ((if (k==NameKind.free)=true then (do let c <- cellOf env n;pure (ForInStep.yield ((n,c)::acc)))else pure (ForInStep.yield acc)) >>= _)=_
     rw[fR hk];exact e
    .
     rcases h1 x c' q with z |⟨z1,z2⟩
     . exact .inl z
     . exact .inr ⟨z1,b0 _ z2⟩
    .
     rcases d0.mp hy with rfl |hy
     . exact absurd X8 (by simpa using hk)
     . exact h2 y hy X8
 obtain⟨cl,e,h1,h2,_⟩:=key scope.names [] h;refine⟨cl,?_,λx c q=>?_,h2⟩
 . exact (congrArg (λ(m:Sem (List (Str×Addr)))=>m >>= λcs=>pure cs) e:_)
 .
  rcases h1 x c q with z |z
  . simp at z
  . exact z
def tH(X:Cx)(ifs:List Expr)(t:TT):Prop:=
 ∀(ah:List (Addr×Obj)) (s:Shared) (σ:St) (H:Hp) (Q:Bool->Hp->Prop),Inv X ah σ H s->t σ H Q->
  wpAny (model X.prog X.w) X.A (forIn ifs true λc r=>if r=true then do let ok <- isTrue c X.env (eval c X.env);pure (ForInStep.yield ok)else pure (ForInStep.yield r)) (TP X ah σ Q) X.xe s
def Cp:TT:=λ_ H Q=>Q true H
theorem mY:tH X [] Cp:=λ_ _ _ H _ I h=>wpAny_tests_nil ⟨H,I,h⟩
theorem Cq(h:PT X c t):tH X [c] t:=λah s σ H Q I hw=>wpAny_tests_one (h ah s σ H Q I hw)
noncomputable def Cr(e target iter:Expr)(ifs:List Expr)(d:Nat)(it acc:Value)(env:Env)(em:Sem Unit):Sem Fin:=do
 standAt iter.pos
 match <- pyNext it with
 |none=>pure (.done .next)
 |some v=>
  letOwnedTupleGo target it v
  assign target env v
  let mut ok:=true
  for c in ifs do
   if ok then ok <- isTrue c env (eval c env)
  if ok then em
  again (.compLoop e d it acc env)
theorem rA(ht:compTurn (.ListComp fM gens scope pos) d it acc env=Cr (.ListComp fM gens scope pos) target iter ifs d it acc env em)(I:Nat->Shared->Prop)
  (turn:∀n s,I n s->wpAny (model prog w) A (pyNext it) (λr s₁=>match r with
   |none=>R (.ok .next) s₁
   |some v=>wpAny (model prog w) A (letOwnedTupleGo target it v) (λ_ s₁'=>wpAny (model prog w) A (assign target env v) (λ_ s₂=>
     wpAny (model prog w) A (forIn ifs true λc r=>if r=true then do let ok <- isTrue c env (eval c env);pure (ForInStep.yield ok)else pure (ForInStep.yield r)) (λok s₃=>
      if ok=true then wpAny (model prog w) A em (λ_ s₅=>∃m,m<n/\I m s₅) (λ_ _=>False) s₃
      else ∃m,m<n/\I m s₃) (λ_ _=>False) s₂) (λ_ _=>False) s₁') (λ_ _=>False) s₁) (λ_ _=>False) s)
  (n:Nat) (h:I n s) :
  codeAny (model prog w) A (.compLoop (.ListComp fM gens scope pos) d it acc env) R s:=by
 refine codeAny_loop rfl I (λn s hI=>?_) n h
 show wpAny _ A ((compTurn (.ListComp fM gens scope pos) d it acc env).onRaise (λx=>do noteFrame x env;theTreesLotGoes x)) _ _ s
 refine wpAny_noted ?_;rw[ht];refine aS (B0 (aS (lS (turn n s hI) (λr s₁ h₁=>?_) λ_ _ h'=>h'.elim)))
 cases r with
 |none=>exact dL h₁
 |some v=>
  refine aS (lS h₁ (λ_ s₁' h₁'=>?_) λ_ _ h'=>h'.elim)
  refine aS (lS h₁' (λ_ s₂ h₂=>aS (lS h₂ (λok s₃ h₃=>?_) λ_ _ h'=>h'.elim)) λ_ _ h'=>h'.elim)
  cases ok with
  |false=>exact dL ⟨rfl,h₃⟩
  |true=>exact aS (lS h₃ (λ_ s₅ h₅=>dL ⟨rfl,h₅⟩) λ_ _ h'=>h'.elim)
abbrev TU:=St->Hp->(St->Hp->Prop)->Prop
def PU(X:Cx)(m:Sem Unit)(t:TU):Prop:=
 ∀(ah:List (Addr×Obj)) (s:Shared) (σ:St) (H:Hp) (Q:St->Hp->Prop),Inv X ah σ H s->t σ H Q->wpAny (model X.prog X.w) X.A m (λ_ s'=>∃σ' H',Inv X ah σ' H' s'/\Q σ' H') (λ_ _=>False) s
def Cu(D:Addr)(te:TE):TU:=λσ H Q=>te σ H λv H5=>∃ys,H5 D=some (.lst ys)/\ys.length<sizeLine/\Q σ (upd H5 D (.lst (ys++[v])))
theorem Cv(he:PE X fM te)(hx:X.xe=λ_ _=>False):PU X (do let _ <- call (.builtin "list.append") [.ref D,<- eval fM X.env]) (Cu D te):=by
 intro ah s σ H Q I h;have he:=he ah s σ H _ I h;rw[hx]at he;refine aS (lS he (λy s8 ⟨v,H8,I8,r8,ys,hD8,hz8,q8⟩=>?_) λ_ _ z=>z)
 have ma:=iF ah s8 σ H8 (.ref D) [v] (.ref D) [y] (λ_ H9=>Q σ H9) I8 rfl (.cons r8 .nil) ⟨_,ys,v,rfl,rfl,hD8,hz8,q8⟩
 rw[hx]at ma;exact aS (lS ma (λ_ s9 ⟨_,H9,I9,_,q9⟩=>dL ⟨σ,H9,I9,q9⟩) λ_ _ z=>z)
noncomputable def σC(k:Nat)(D:Addr)(σ:St):St:=σ++(List.replicate k none++[some (.ref D)])
def Vq(X:Cx)(σ:St)(b:Bk):Prop:=∃ah,Inv X ah σ b.H₀ b.s₀/\∀a∈b.fp,j5 X ah b.H₀ a
def Il(X:Cx)(k:Nat)(g:Bk->TG)(tt:Bk->TT)(te:Addr->Bk->TU)(J:It)(D:Addr)(σ:St)(H1:Hp)(Q:VK):Prop:=
 ∃W:Nat->Nat->St->Hp->Prop,(∃m,W 0 m (σC k D σ) (upd H1 D (.lst [])))/\∀i m σ' H',W i m σ' H'->
  (J.stop i H'/\Q (.ref D) H')\/(J.go i H'/\∃Nn:St->Hp->Prop,(∀Mm Mp,Nn Mm Mp->∃m',m'<m/\W (i+1) m' Mm Mp)/\∀x H2,J.XZ i H' x H2->∀bk:Bk,Vq X σ bk->g bk x σ' H2 λσ2 H3=>tt bk σ2 H3 λb H4=>
   if b=true then te D bk σ2 H4 Nn else Nn σ2 H4)
noncomputable def xN(X:Cx)(k:Nat)(wi:TI)(g:Bk->TG)(tt:Bk->TT)(te:Addr->Bk->TU):TE:=λσ H Q=>wi σ H λJ H1=>∀D,H1 D=none->Il X k g tt te J D σ H1 Q
structure Names(N N':List Str)(scope:Scope)(k:Nat):Prop where
 len:N'.length=N.length+(k+1)
 last:∀x,N'[N.length+k]?=some x->scope.names.lookup x=none
 old:∀i x,N'[i]?=some x->i<N.length->scope.names.lookup x=none\/(N[i]?=some x/\scope.names.lookup x≠some .local)
theorem dU:(relabel scope env).names.lookup x=(scope.names.lookup x).map λk=>if (k==NameKind.free&&env.scope.kind==.function&&env.kindOf x==some .cell)then NameKind.cell else k:=gU
section
variable{X:Cx}
theorem mZ(B:aM X.env.scope scope)(h:(compEnvC scope cl C X.env).kindOf x=some .cell\/(compEnvC scope cl C X.env).kindOf x=some .free) :
  (x,NameKind.free)∈scope.names:=by
 have e:(compEnvC scope cl C X.env).kindOf x=(scope.names.lookup x).map λk=>if (k==NameKind.free&&X.env.scope.kind==.function&&X.env.kindOf x==some .cell)then NameKind.cell else k:=dU
 rw[e]at h;cases q:scope.names.lookup x with
 |none=>rw[q]at h;rcases h with h |h <;> cases h
 |some k=>
  have hm:=mem_of_lookup q;cases k with
  |free=>exact hm
  |cell=>exact absurd rfl (B.rz _ hm)
  |_=>rw[q]at h;rcases h with h |h <;> (simp at h)
theorem Cw(B:aM X.env.scope scope)(I:Inv X ah σ H s)(hC:s⁻¹<=C)
  (hf:∀b∈fp,j5 X ah H b) (hfs:∀b∈fp,b<s⁻¹)
  (hcl:∀x c,cl.lookup x=some c->X.env.cells.lookup x=some c/\(x,NameKind.free)∈scope.names) (Im:∀y∈scope.names,y.2=.free->∃c,cl.lookup y.1=some c):(X.block N' scope cl C s H fp).Ok where
 mod:=I.ok.mod
 kind:=B.kind
 glob:=I.ok.glob
 blt:=I.ok.blt
 above:=hC
 inj:=λx y c h1 h2=>I.ok.inj x y c (hcl x c h1).1 (hcl y c h2).1
 has:=λx h=>Im _ (mZ (cl:=cl) (C:=C) B h) rfl
 Nx:=λx c h1 h2=>by
  have e:scope.names.lookup x=some .local:=by have:(scope.names.lookup x==some NameKind.local)=true:=h1;simpa using this
  have h3:=(hcl x c h2).2;have q:=B.Vp _ h3 rfl;rw[e]at q;cases q
 hd:=I.ok.hd
 frames:=I.ok.frames
 stk:=.inl rfl
 TJ:=λb hb=>⟨i5 (eA (hfs b hb) hC),λx c e=>(hf b hb).2.2.2.2.1 x c (hcl x c e).1⟩
 bs:=I.bs
 Bv:=l6 I.ok.Bv I.sz
 sU:=λb o e hb=>by
  obtain⟨_,_,_,h3,_⟩:=hf b hb;rcases h3 with h3 |h3
  . exact I.ok.sU b o e h3
  . exact absurd (eA (eJ e) (l6 I.ok.Bv h3)) (o6 _)
 vq:=λb hb hm=>by
  rcases d0.mp (I.vA b hm)with e |e
  . exact (hf b hb).2.1 e
  . exact (hf b hb).2.2.1 e
 jE:=I.stack
 HS:=I.qN
theorem p9{ah:List (Addr×Obj)}{σ:St}{H:Hp}{s:Shared}{N':List Str}{k:Nat}{wi:TI}{g:Bk->TG}{tt:Bk->TT}{tu:Addr->Bk->TU}{rest:List Comprehension}{em:Value->Env->Sem Unit}{use:Option (Value->Sem Unit)}{Q:Value->Shared->Prop}{Q0:VK}
  (B:aM X.env.scope scope) (hc:X.calm=true) (hN:Names X.N N' scope k) (hi:PI X tg iter wi) (hturn:∀it acc env,compTurn (.ListComp fM (⟨tg,iter,ifs,0⟩::rest) scope pos) 0 it acc env=Cr (.ListComp fM (⟨tg,iter,ifs,0⟩::rest) scope pos) tg iter ifs 0 it acc env (em acc env))
  (hin:∀(b:Bk) (D:Addr),PG (X.blk N' scope b) tg (g b)/\tH (X.blk N' scope b) ifs (tt b)/\PU (X.blk N' scope b) (em (.ref D) (X.blk N' scope b).env) (tu D b))
  (hs:∀x,foldedSetIterable iter X.env x=pure x) (I:Inv X ah σ H s) (h:xN X k wi g tt tu σ H Q0)
  (fin:∀s' H' D C m,Inv X ah σ H' s'->j5 X ah H' C->s'.heap.Ns C m->Q0 (.ref D) H'->compPost (model X.prog X.w) X.A X.xe use Q (.ref D) C (.ok .next) s') :
  wpAny (model X.prog X.w) X.A (comprehension (.ListComp fM (⟨tg,iter,ifs,0⟩::rest) scope pos) scope X.env (firstIterPos (⟨tg,iter,ifs,0⟩::rest) pos) (newList []) false (eval iter X.env) use) Q X.xe s:=by
 obtain⟨cl,hclos,hcl,Im⟩:=mX (scope:=scope) (env:=X.env) λy hy hf=>I.ok.has y.1 (B.free y hy hf)
 refine wpAny_comprehension_free rfl hs hclos B.kind B.uniq (bQ (hi ah s σ H _ I h) λxv s₁ h₁=>bQ h₁ λitv s₂ h₂=>?_)
 obtain⟨it,fp,tn,J,H2,rfl,I2,T,aL,f2,hW⟩:=h₂;refine l7 (wpAny_newFunctionEnv B.rz (by intro y hy;simp at hy) (λh₁ Ot Io=>?_) B.kind)
 dsimp only at Ot Io ⊢
 generalize ZF:s₂.heap.push { cls:=.type "list",dict:=none,data:=.seq ([]:List Value).toArray}=P2 at Ot Io ⊢
 have hC:P2.objs.size=s₂⁻¹+1:=by rw[<- ZF,An]
 have hDC:s₂⁻¹≠P2.objs.size:=by rw[hC];exact i5 (u4 _)
 have Ou:s₂⁻¹<=P2.objs.size:=by rw[hC];exact AC _
 have old:∀b o,s₂.heap.get? b=some o->h₁.get? b=some o:=λb o e=>Io.extBut b o (i5 (by rw[hC];exact Nat.lt_succ_of_lt (eJ e))) (bP _ (ZF▸bP _ e))
 have hD0:H2 s₂⁻¹=none:=I2.hok.fresh (d5 _);have hC0:H2 P2.objs.size=none:=I2.hok.fresh Ou;have fps:∀b∈fp,b<s₂⁻¹:=λb hb=>by
  obtain⟨o,e,_⟩:=T.obj _ _ aL b hb;exact eJ e
 have ok':=Cw (N':=N') (cl:=cl) B I2 Ou f2 fps hcl Im;obtain⟨W,⟨m0,w0⟩,turn⟩:=hW s₂⁻¹ hD0;have ZG:∀b∈fp,b∉frs X.stack:=λb hb=>ok'.vq b hb
 obtain⟨hg,ht,he⟩:=hin ⟨cl,P2.objs.size,s₂,H2,fp⟩ s₂⁻¹;have I0:Inv (X.block N' scope cl P2.objs.size s₂ H2 fp) [] (σC k s₂⁻¹ σ) (upd H2 s₂⁻¹ (.lst [])) { s₂ with heap:=h₁,toks:=s₂.toks+([]:List (Str×Value)).length}:=by
  refine⟨ok',rfl,I2.bare,Un.laid old (d5 _) hD0,⟨_,Ot,λi x v e1 e2 e3=>?_⟩,λx c e=>?_,?_,λx c e=>?_,λp hp=>?_,I2.hok.laid old (d5 _) ?_,?_⟩
  .
   have Vr:(compEnvC scope cl P2.objs.size X.env).kindOf x=some .local\/(compEnvC scope cl P2.objs.size X.env).kindOf x=some .cell\/(compEnvC scope cl P2.objs.size X.env).kindOf x=some .free:=e3;have ek:(compEnvC scope cl P2.objs.size X.env).kindOf x=(scope.names.lookup x).map λk=>if (k==NameKind.free&&X.env.scope.kind==.function&&X.env.kindOf x==some .cell)then NameKind.cell else k:=dU
   have Uz:i<σ.length:=by
    rcases xI i σ.length with z |z
    . exact z
    .
     exfalso;unfold σC at e2;rw[d6 z]at e2;rcases xI (i - σ.length) k with z2 |z2
     .
      rw[dS (by rw[fI];exact z2)]at e2
      have:=i8 e2;rw[t7]at this;exact absurd this.2 ⋯
     .
      rw[d6 (by rw[fI];exact z2),fI]at e2
      have z3:i - σ.length - k=0:=by
       rcases Nat.eq_zero_or_pos (i - σ.length - k)with q |q
       . exact q
       . rw[AE (Nat.succ_le_of_lt q)]at e2;cases e2
      have z4:i=X.N.length+k:=by rw[<- I2.len];lia
      have hn:=hN.last x (by rw[<- z4];exact e1)
      rw[ek,hn]at Vr;rcases Vr with q |q |q <;> cases q
   have Ip:σ[i]?=some (some v):=by unfold σC at e2;rw[dS Uz]at e2;exact e2
   have hiN:i<X.N.length:=by rw[<- I2.len];exact Uz
   rcases hN.old i x e1 hiN with z |⟨z,z2⟩
   . rw[ek,z]at Vr;rcases Vr with q |q |q <;> cases q
   .
    have hfree:(compEnvC scope cl P2.objs.size X.env).kindOf x=some .cell\/(compEnvC scope cl P2.objs.size X.env).kindOf x=some .free:=by
     rcases Vr with q |q
     .
      exfalso;rw[ek]at q;cases hq:scope.names.lookup x with
      |none=>rw[hq]at q;cases q
      |some kk=>
       rw[hq]at q;cases kk with
       | «local»=>exact z2 hq
       |free=>simp only[AY,Option.some.injEq]at q;split at q <;> cases q
       |_=>simp at q
     . exact q
    have hm:=mZ (cl:=cl) (C:=P2.objs.size) B hfree;obtain⟨c,hc1⟩:=Im _ hm rfl;have Vs:cl.lookup x=some c:=hc1;have hc2:=(hcl x c Vs).1;obtain⟨m2,hn2,hl2⟩:=I2.loc;have ZJ:gR X.env.scope x:=(B.free _ hm rfl).elim (λa=>.inr (.inl a)) λa=>.inr (.inr a)
    obtain⟨u,ru,lk⟩:=hl2 i x v z Ip ZJ;refine⟨u,ru,.inr ⟨hfree,c,Vs,?_⟩⟩;rcases lk with ⟨q1,_⟩ |⟨_,c',q1,q2⟩
    .
     exfalso;have jJ:X.env.scope.names.lookup x=some .local:=q1;rcases B.free _ hm rfl with y |y
     . have y':X.env.scope.names.lookup x=some .cell:=y;rw[jJ]at y';cases y'
     . have y':X.env.scope.names.lookup x=some .free:=y;rw[jJ]at y';cases y'
    . rw[hc2]at q1;cases q1;obtain⟨o,ho,hd⟩:=q2;exact⟨o,old _ _ ho,hd⟩
  . obtain⟨v,o,ho,hd⟩:=I2.cell x c (hcl x c e).1;exact⟨v,o,old _ _ ho,hd⟩
  . show upd H2 s₂⁻¹ (.lst []) P2.objs.size=none;rw[au (nN hDC)];exact hC0
  . have q:=I2.dJ x c (hcl x c e).1;obtain⟨v,z⟩:=I2.cell x c (hcl x c e).1;rw[au (i5 z.lt)];exact q
  . exact absurd (show p∈([]:List (Addr×Obj))from hp) ⋯
  . exact⟨wE _,[],_,.nil,Io.extBut _ _ hDC (bP _ (ZF▸eD _ rfl))⟩
  . show (σC k s₂⁻¹ σ).length=N'.length;unfold σC;rw[gL,gL,fI,hN.len,I2.len];rfl
 have stat:∀{H':Hp},(∀b∈fp,H' b=none)->∀b∈fp,j5 (X.block N' scope cl P2.objs.size s₂ H2 fp) [] H' b:=λhn b hb=>
  ⟨hn b hb,(ok'.TJ b hb).1,ZG b hb,.inl hb,λx c e=>(ok'.TJ b hb).2 x c e,λp hp=>absurd (show p∈([]:List (Addr×Obj))from hp) ⋯⟩
 have loop:∀s₃:Shared,s₃={ s₂ with heap:=h₁,toks:=s₂.toks+([]:List (Str×Value)).length}->
   codeAny (model X.prog X.w) X.A (.compLoop (.ListComp fM (⟨tg,iter,ifs,0⟩::rest) scope pos) 0 (.ref it) (.ref s₂⁻¹) (compEnvC scope cl P2.objs.size X.env))
    (compPost (model X.prog X.w) X.A X.xe use Q (.ref s₂⁻¹) P2.objs.size) s₃:=by
  rintro s₃ rfl;refine rA (hturn _ _ _) (λn s'=>∃i σ' H',Inv (X.block N' scope cl P2.objs.size s₂ H2 fp) [] σ' H' s'/\tn i s'.heap/\(∀b∈fp,H' b=none)/\W i n σ' H') ?_ m0
   ⟨0,_,_,I0,T.keep _ _ _ aL λb hb o e=>old b o e,λb hb=>?_,w0⟩
  .
   rintro n s3 ⟨i,σ3,H3,I3,gF,U6,w3⟩;rcases turn i n σ3 H3 w3 with ⟨stop,qn⟩ |⟨go,Nn,hNn,step⟩
   .
    refine bQ (T.done (X.block N' scope cl P2.objs.size s₂ H2 fp) rfl rfl rfl hc i [] s3 σ3 H3 (λ_ _=>False) I3 (stat U6) gF stop) λr s4 ⟨hr,I4⟩=>?_
    subst hr;obtain⟨m,hm,_⟩:=id I4.loc;have I5:Inv X ah σ H3 s4:=I2.call' (ch:=fp) I4.os I4.base I4.hok I4.bare λb hb=>⟨(f2 b hb).2.2.2.1,(f2 b hb).2.1,(f2 b hb).2.2.2.2.1,(f2 b hb).2.2.2.2.2⟩
    exact fin s4 H3 _ _ m I5 (I2.BP Ou I4.free) hm qn
   .
    refine bQ (T.item (X.block N' scope cl P2.objs.size s₂ H2 fp) rfl rfl rfl hc i [] s3 σ3 H3 (λ_ _=>False) I3 (stat U6) gF go) λr s4 ⟨u,hr,h4⟩=>?_
    subst hr;refine bQ h4 λ_ s5 ⟨x,H5,I5,r5,y5,vD,Zf⟩=>?_
    have Zg:=I5.pinned (stat Zf) (T.obj _ _ vD);have again:∀{σ7:St}{H7:Hp}{s7:Shared},Inv (X.block N' scope cl P2.objs.size s₂ H2 fp) ([]++mQ fp s5.heap) σ7 H7 s7->Nn σ7 H7->∃m,m<n/\∃i σ' H',Inv (X.block N' scope cl P2.objs.size s₂ H2 fp) [] σ' H' s7/\tn i s7.heap/\(∀b∈fp,H' b=none)/\W i m σ' H':=λ{σ7 H7 s7} I7 n7=>by
     obtain⟨m',hm,w7⟩:=hNn σ7 H7 n7;refine⟨m',hm,i+1,σ7,H7,I7.jF,T.keep _ _ _ vD λb hb o e=>(I7.pin (b,o) (lL _ (lL _ (fP hb e)))).1,λb hb=>?_,w7⟩
     obtain⟨o,e,d⟩:=T.obj _ _ vD b hb;exact (I7.pin (b,o) (lL _ (lL _ (fP hb e)))).2.1
    refine bQ (hg _ s5 σ3 H5 x u _ Zg r5 (step x H5 y5 ⟨cl,P2.objs.size,s₂,H2,fp⟩ ⟨ah,I2,f2⟩)) λ_ s6 ⟨σ6,H6,I6,q6⟩=>?_
    refine bQ (ht _ s6 σ6 H6 _ I6 q6) λb s7 ⟨H7,I7,q7⟩=>?_
    cases b with
    |false=>
     rw[fR i7]at q7 ⊢
     exact again I7 q7
    |true=>
     rw[fN rfl]at q7 ⊢
     exact lS (he _ s7 σ6 H7 _ I7 q7) (λ_ s9 ⟨σ9,H9,I9,q9⟩=>again I9 q9) λ_ _ z=>z
  . show upd H2 s₂⁻¹ (.lst []) b=none;rw[au (i5 (fps b hb))];exact (f2 b hb).1
 refine codeAny_compStart_list (loop _ rfl) (T.self _ 0 _ _ _ ?_ (loop _ rfl));exact T.keep _ _ _ aL λb hb o e=>old b o e
theorem xO{N':List Str}{k:Nat}{wi:TI}{g:Bk->TG}{tt:Bk->TT}{te:Bk->TE}(B:aM X.env.scope scope)(hc:X.calm=true)(hN:Names X.N N' scope k)(hi:PI X tg iter wi)
  (hin:∀b:Bk,PG (X.blk N' scope b) tg (g b)/\tH (X.blk N' scope b) ifs (tt b)/\PE (X.blk N' scope b) fM (te b))
  (hs:∀x,foldedSetIterable iter X.env x=pure x:=by intro _;rfl):PE X (.ListComp fM [⟨tg,iter,ifs,0⟩] scope pos) (xN X k wi g tt λD b=>Cu D (te b)):=by
 intro ah s σ H Q I h;rw[eval_ListComp];refine p9 (use:=none) B hc hN hi (rest:=[]) (em:=λacc env=>do let _ <- call (.builtin "list.append") [acc,<- eval fM env]) (λ_ _ _=>rfl) (λb D=>⟨(hin b).1,(hin b).2.1,Cv (hin b).2.2 rfl⟩) hs I h λs' H' D C m I' f' hn q=>?_
 refine⟨m,hn,λh' sb=>⟨.ref D,H',?_,rfl,q⟩⟩
 obtain⟨f0,f1,f2,f3,f4,f5⟩:=f';exact I'.turned (t':=s'.toks) (λb o hb e=>(sb.2 b hb).trans e) f0 f1 f3 f4 f5
theorem xP{N':List Str}{k:Nat}{wi:TI}{g:Bk->TG}{tt:Bk->TT}{te:Bk->TE}{i:Nat}{y:Str}{py eS:Pos}(B:aM X.env.scope scope)(hc:X.calm=true)(hN:Names X.N N' scope k)(hi:PI X tg iter wi)
  (hin:∀b:Bk,PG (X.blk N' scope b) tg (g b)/\tH (X.blk N' scope b) ifs (tt b)/\PE (X.blk N' scope b) fM (te b))
  (Iq:X.N.Nodup) (hy:X.N[i]?=some y) (hl:X.env.scope.names.lookup y=some .local)
  (hsw:swapsWith (.ListComp fM [⟨tg,iter,ifs,0⟩] scope pos) (some (.Name y py)) eS.line X.env=pure true)
  (hs:∀x,foldedSetIterable iter X.env x=pure x:=by intro _;rfl):PS X (.Assign [.Name y py] (.ListComp fM [⟨tg,iter,ifs,0⟩] scope pos) eS) (NX (xN X k wi g tt λD b=>Cu D (te b)) (sX i)):=by
 intro ah s σ H D0 I h;rw[exec_Assign_Name_used _ _ _ _ hsw];refine aS (B0 (aS ?_));show wpAny _ X.A (do let _ <- comprehension (.ListComp fM [⟨tg,iter,ifs,0⟩] scope pos) scope X.env _ (newList []) false (eval iter X.env) (some (assign (.Name y py) X.env))) _ _ s
 refine aS (lS (p9 (use:=some (assign (.Name y py) X.env)) (Q:=λ_ s'=>SP X ah D0 .next s') B hc hN hi (rest:=[]) (em:=λacc env=>do let _ <- call (.builtin "list.append") [acc,<- eval fM env]) (λ_ _ _=>rfl) (λb D=>⟨(hin b).1,(hin b).2.1,Cv (hin b).2.2 rfl⟩) hs I h λs' H' D C m I' f' hn q=>?_) (λ_ s' hq=>dL (dL hq)) λ_ _ e=>e)
 refine wpAny_assign_Name (pR I' Iq hy (.inl hl) (v:=.ref D) rfl (λs2 I2 hsb=>?_) (.inr hl))
 obtain⟨f0,f1,f2,f3,f4,f5⟩:=f';obtain⟨a,sb,ha⟩:=hsb;have nC:C≠a:=by
  rcases ha with e |e
  . rw[e];exact f1
  . exact nN (f4 _ _ e)
 refine⟨m,hn.sameBut sb nC,λh' sb'=>⟨_,H',?_,q⟩⟩
 exact I2.turned (t':=s2.toks) (λb o hb e=>(sb'.2 b hb).trans e) f0 f1 f3 f4 f5
end
end L2
namespace Ev
open L2
inductive D where
 |non |bl (b:Bool) |int (i:Int) |str (x:Str) |tup (l:List D) |lst (l:List D) |fix (l:List D) |emp |lq (C:Addr)
 deriving Inhabited
inductive Slot where
 |no |dat (d:D) |own (l:List D)
 deriving Inhabited
inductive R where
 |dat (d:D) |new (l:List D) |var (i:Nat)
 deriving Inhabited
abbrev G:=List Slot
abbrev Sg:=L2.St
abbrev K0:Hp:=λ_=>none
def LstAt(M:List Addr)(H:Hp)(a:Addr)(xs:List V):Prop:=a∉M/\H a=some (.lst xs)
def ng(K:Frag)(M:List Addr)(H:Hp)(a:Addr)(xs:List V):Prop:=(a∉M/\∃o,H a=some (.iN o (.lst xs)))\/bX K K0 a xs
def TupAt(K:Frag)(M:List Addr)(H:Hp)(a:Addr)(xs:List V):Prop:=(a∉M/\Rd H a (.tup xs))\/(gi K K0 a xs/\∃o,K.lookup a=some o/\o.dict=none)
theorem rd0(h:Rd K0 a u):False:=by rcases h with h |⟨o,h⟩ <;> cases h
theorem ng.sq{K:Frag}{M:List Addr}{H:Hp}{a:Addr}{xs:List V}(h:ng K M H a xs):bX K H a xs:=by
 rcases h with ⟨_,o,h⟩ |h |h
 . exact .inl (.inr ⟨o,h⟩)
 . exact (rd0 h).elim
 . exact .inr h
theorem TupAt.sq{K:Frag}{M:List Addr}{H:Hp}{a:Addr}{xs:List V}(h:TupAt K M H a xs):gi K H a xs:=by
 rcases h with ⟨_,h⟩ |⟨h |h,_⟩
 . exact .inl h
 . exact (rd0 h).elim
 . exact .inr h
noncomputable abbrev vL(C a:Addr):HO:=.ext λh=>∃o,h.get? a=some o/\o.cls=.ref C/\PySem.W.notCls o=true/\o.dict=none
structure Ht(K:Frag)(C:Addr):Prop where
 gga:PySem.W.findIn K (.ref C) "__getattribute__"=some (some (.builtin "BaseException.__getattribute__"))
 gat:PySem.W.findIn K (.ref C) "__getattr__"=some none
 bas:PySem.W.mroIn K C (.type "BaseException")=some true
 dct:PySem.W.hasDictIn K C=true
 cls:PySem.W.findIn K (.ref C) "__class__"=some (some (.builtin "object.__class__"))
 spc:PySem.W.specialIn K (.builtin "object.__class__") "__get__"=some (some (.builtin "getset_descriptor.__get__"))
 tks:PySem.W.takesIn K (.builtin "object.__class__")=some true
 mro:PySem.W.mroIn K C (.type "object")=some true
 kit:∀n∈["int", "bool", "str", "tuple", "list", "dict"],PySem.W.kitOne K (.ref C) (.type n)=some false
mutual
inductive Rep(K:Frag)(M:List Addr)(H:Hp):D->V->Prop
 |non:Rep K M H .non .non
 |bl (b:Bool):Rep K M H (.bl b) (.bl b)
 |int (i:Int):Rep K M H (.int i) (.int i)
 |str (x:Str):Rep K M H (.str x) (.str x)
 |tup {l:List D}{a:Addr}{xs:List V}:TupAt K M H a xs->aH K M H l xs->Rep K M H (.tup l) (.ref a)
 |lst {l:List D}{a:Addr}{xs:List V}:LstAt M H a xs->aH K M H l xs->Rep K M H (.lst l) (.ref a)
 |fix {l:List D}{a:Addr}{xs:List V}:ng K M H a xs->aH K M H l xs->Rep K M H (.fix l) (.ref a)
 |emp:a∉M->H a=some (.dK [])->Rep K M H .emp (.ref a)
 |lq:Ht K C->a∉M->H a=some (vL C a)->Rep K M H (.lq C) (.ref a)
inductive aH(K:Frag)(M:List Addr)(H:Hp):List D->List V->Prop
 |nil:aH K M H [] []
 |cons {d:D}{ds:List D}{x:V}{xs:List V}:Rep K M H d x->aH K M H ds xs->aH K M H (d::ds) (x::xs)
end
def aq(M:List Addr)(H:Hp)(M':List Addr)(H':Hp):Prop:=∀b o,H b=some o->b∉M->H' b=some o/\b∉M'
theorem aq.rd(h:aq M H M' H')(n:a∉M)(r:Rd H a u):a∉M'/\Rd H' a u:=by
 rcases r with r |⟨o,r⟩
 . exact⟨(h _ _ r n).2,.inl (h _ _ r n).1⟩
 . exact⟨(h _ _ r n).2,.inr ⟨o,(h _ _ r n).1⟩⟩
theorem Rep.stay{K:Frag}{M M':List Addr}{H H':Hp}(h:aq M H M' H'){d:D}{v:V}(r:Rep K M H d v):Rep K M' H' d v:=by
 refine Rep.rec (motive_1:=λd v _=>Rep K M' H' d v) (motive_2:=λds vs _=>aH K M' H' ds vs) .non .bl .int .str (λt _ q=>?_) (λt _ q=>?_) (λt _ q=>?_) (λn r=>.emp (h _ _ r n).2 (h _ _ r n).1) (λx n r=>.lq x (h _ _ r n).2 (h _ _ r n).1) .nil (λ_ _ a b=>.cons a b) r
 .
  rcases t with t |t
  . exact .tup (.inl (h.rd t.1 t.2)) q
  . exact .tup (.inr t) q
 . exact .lst ⟨(h _ _ t.2 t.1).2,(h _ _ t.2 t.1).1⟩ q
 .
  rcases t with ⟨n,o,r⟩ |t
  . exact .fix (.inl ⟨(h _ _ r n).2,o,(h _ _ r n).1⟩) q
  . exact .fix (.inr t) q
theorem aH.stay{K:Frag}{M M':List Addr}{H H':Hp}(h:aq M H M' H'):∀{ds:List D}{vs:List V},aH K M H ds vs->aH K M' H' ds vs:=by
 intro ds
 induction ds with
 |nil=>intro vs q;cases q;exact .nil
 |cons d ds ih=>intro vs q;cases q with |cons a b=>exact .cons (a.stay h) (ih b)
theorem aq.refl(M:List Addr)(H:Hp):aq M H M H:=λ_ _ e n=>⟨e,n⟩
theorem aq.trans(a:aq M H M1 H1)(b:aq M1 H1 M2 H2):aq M H M2 H2:=λc o e n=>b c o (a c o e n).1 (a c o e n).2
theorem aq.less(h:∀m∈M',m∈M):aq M H M' H:=λ_ _ e n=>⟨e,λz=>n (h _ z)⟩
theorem aq.laid(hp:H p=none):aq M H M (upd H p o):=λb u e n=>⟨by rw[au (aG e hp)];exact e,n⟩
theorem aq.aN(hp:H p=none):aq M H (p::M) (upd H p o):=λb u e n=>
 ⟨by rw[au (aG e hp)];exact e,λz=>(d0.mp z).elim (λq=>aG e hp q) n⟩
theorem aq.write(hp:p∈M):aq M H M (upd H p o):=λb u e n=>⟨by rw[au (λq=>n (by rw[q];exact hp))];exact e,n⟩
theorem aH.length{K:Frag}{M:List Addr}{H:Hp}{ds:List D}{vs:List V}(r:aH K M H ds vs):ds.length=vs.length:=by
 induction ds generalizing vs with
 |nil=>cases r;rfl
 |cons d ds ih=>cases r with |cons a b=>exact congrArg (· + 1) (ih b)
theorem aH.append{K:Frag}{M:List Addr}{H:Hp}{ds es:List D}{vs ws:List V}(r:aH K M H ds vs)(s:aH K M H es ws):aH K M H (ds++es) (vs++ws):=by
 induction ds generalizing vs with
 |nil=>cases r;exact s
 |cons d ds ih=>cases r with |cons a b=>exact .cons a (ih b)
theorem aH.get{K:Frag}{M:List Addr}{H:Hp}{ds:List D}{vs:List V}{i:Nat}{d:D}(r:aH K M H ds vs)(e:ds[i]?=some d):∃v,vs[i]?=some v/\Rep K M H d v:=by
 induction ds generalizing vs i with
 |nil=>exact nomatch (show none=some d from e)
 |cons d' ds ih=>cases r with |cons a b=>cases i with
  |zero=>cases (show some d'=some d from e);exact⟨_,rfl,a⟩
  |succ i=>obtain⟨v,h⟩:=ih (i:=i) b e;exact⟨v,h⟩
theorem aH.set{K:Frag}{M:List Addr}{H:Hp}{d:D}{v:V}(r:Rep K M H d v){ds:List D}{vs:List V}(i:Nat)(q:aH K M H ds vs):aH K M H (ds.set i d) (vs.set i v):=by
 induction ds generalizing vs i with
 |nil=>cases q;exact .nil
 |cons d' ds ih=>cases q with |cons a b=>cases i with
  |zero=>exact .cons r b
  |succ i=>exact .cons a (ih i b)
theorem aH.take{K:Frag}{M:List Addr}{H:Hp}{ds:List D}{vs:List V}(n:Nat)(q:aH K M H ds vs):aH K M H (ds.take n) (vs.take n):=by
 induction ds generalizing vs n with
 |nil=>cases q;rw[List.take_nil,List.take_nil];exact .nil
 |cons d' ds ih=>cases q with |cons a b=>cases n with
  |zero=>exact .nil
  |succ n=>exact .cons a (ih n b)
theorem aH.drop{K:Frag}{M:List Addr}{H:Hp}{ds:List D}{vs:List V}(n:Nat)(q:aH K M H ds vs):aH K M H (ds.drop n) (vs.drop n):=by
 induction ds generalizing vs n with
 |nil=>cases q;rw[List.drop_nil,List.drop_nil];exact .nil
 |cons d' ds ih=>cases q with |cons a b=>cases n with
  |zero=>exact .cons a b
  |succ n=>exact ih n b
theorem aH.reverse{K:Frag}{M:List Addr}{H:Hp}{ds:List D}{vs:List V}(q:aH K M H ds vs):aH K M H ds.reverse vs.reverse:=by
 induction ds generalizing vs with
 |nil=>cases q;exact .nil
 |cons d ds ih=>cases q with |cons a b=>rw[BA,BA];exact (ih b).append (.cons a .nil)
inductive Slots(K:Frag)(M:List Addr)(H:Hp):G->Sg->List Addr->Prop
 |nil:Slots K M H [] [] []
 |no:Slots K M H g σ As->Slots K M H (.no::g) (v::σ) As
 |dat {g:G}{σ:Sg}{As:List Addr}{v:V}{d:D}:Rep K M H d v->Slots K M H g σ As->Slots K M H (.dat d::g) (some v::σ) As
 |own {g:G}{σ:Sg}{As:List Addr}{a:Addr}{xs:List V}{ds:List D}:H a=some (.lst xs)->aH K M H ds xs->Slots K M H g σ As->Slots K M H (.own ds::g) (some (.ref a)::σ) (a::As)
theorem Slots.stay{K:Frag}{M M':List Addr}{H H':Hp}(h:aq M H M' H'){g:G}{σ:Sg}{As:List Addr}(k:∀a∈As,∀o,H a=some o->H' a=some o)(q:Slots K M H g σ As):Slots K M' H' g σ As:=by
 induction q with
 |nil=>exact .nil
 |no q ih=>exact .no (ih k)
 |dat r q ih=>exact .dat (r.stay h) (ih k)
 |own e r q ih=>exact .own (k _ dA _ e) (r.stay h) (ih λa ha=>k a (b0 _ ha))
def cH(K:Frag):List (Addr×Str):=K.filterMap λp=>match p.2.data with
 |.fields vs=>(match vs.toList with
  |_::.str n _::_=>if (n==("law":Str))=true then (match vs.toList[11]? with
   |some (Value.ref q)=>if (K.lookup q).isNone=true then some (q,("law.<locals>.<lambda>":Str))else none
   |_=>none)else none
  |_=>none)
 |_=>none
theorem zo{K:Frag}{p:Addr×Str}(h:p∈cH K):p.2 = "law.<locals>.<lambda>" :=by
 unfold cH at h;obtain⟨q,_,e⟩:=List.mem_filterMap.mp h;split at e
 .
  split at e
  .
   split at e
   .
    split at e
    .
     split at e
     . cases e;rfl
     . cases e
    . cases e
   . cases e
  . cases e
 . cases e
structure Z where
 K:Frag
 H0:Hp
 M0:List Addr
 lent:List (Nat×Addr)
 T:List (Addr×Str)
abbrev gG(q:Str)(c:Addr):HO:=.ext λh=>h.CodeRec (.ref c) q
def TabOk(H:Hp)(p:Addr×Str):Prop:=∃ps:Array Value,H p.1=some (.j3 ps)/\TriplesOk ps.toList/\∀pos cv,codeAmong pos ps.toList=some cv->∃c,cv=.ref c/\H c=some (gG p.2 c)
noncomputable abbrev Z.TA(z:Z):List Addr:=z.T.map (·.1)
theorem TabOk.keep(t:TabOk H p)(k:∀b o,H b=some o->(∀xs,o≠.lst xs)->H' b=some o):TabOk H' p:=by obtain⟨ps,h1,h2,h3⟩:=t;exact⟨ps,k _ _ h1 (λ_ e=>nomatch e),h2,λpos cv e=>let ⟨c,e1,e2⟩:=h3 pos cv e;⟨c,e1,k _ _ e2 (λ_ e=>nomatch e)⟩⟩
noncomputable abbrev Z.B(z:Z):List Addr:=z.lent.map (·.2)
abbrev Z.bor(z:Z):List Nat:=z.lent.map (·.1)
structure S(z:Z)(g:G)(σ:Sg)(As M:List Addr)(H:Hp):Prop where
 sl:Slots z.K M H g σ As
 nd:As.Nodup
 sub:∀a∈As,a∈M
 own:∀(i:Nat) (a:Addr) (l:List D),g[i]?=some (.own l)->σ[i]?=some (some (.ref a))->(i∈z.bor/\a∈z.B)\/z.H0 a=none
 live:∀m∈M,(∃xs,H m=some (.lst xs))\/m∈z.TA
 keep:∀b o,z.H0 b=some o->b∉z.B->b∉z.TA->H b=some o
 gW:∀m∈z.M0,m∈M
 m0:∀m∈z.M0,z.H0 m≠none
 bm:∀b∈z.B,b∈z.M0
 iP:∀p∈z.lent,σ[p.1]?=some (some (.ref p.2))/\∃l,g[p.1]?=some (.own l)
 tab:∀p∈z.T,TabOk H p
 tm:∀p∈z.T,p.1∈z.M0
 tt:z.T=cH z.K
section
variable{g:G}
theorem S.fresh(s:S z g σ As M H)(hp:H p=none):p∉M:=λhm=>by
 rcases s.live p hm with ⟨xs,e⟩ |e
 . rw[hp]at e;cases e
 . obtain⟨q,hq,rfl⟩:=i3.mp e;obtain⟨ps,h1,_⟩:=s.tab q hq;rw[hp]at h1;cases h1
theorem S.Mq(s:S z g σ As M H)(hp:H p=some (.lst xs)):p∉z.TA:=λe=>by
 obtain⟨q,hq,rfl⟩:=i3.mp e;obtain⟨ps,h1,_⟩:=s.tab q hq;rw[hp]at h1;cases h1
theorem S.bR(s:S z g σ As M H)(hp:H p=none):z.H0 p=none:=by
 cases e:z.H0 p with
 |none=>rfl
 |some o=>
  by_cases hb:p∈z.B
  . exact absurd (s.gW _ (s.bm _ hb)) (s.fresh hp)
  .
   by_cases ht:p∈z.TA
   . obtain⟨q,hq,rfl⟩:=i3.mp ht;exact absurd (s.gW _ (s.tm q hq)) (s.fresh hp)
   . rw[s.keep p o e hb ht]at hp;cases hp
theorem S.laid(s:S z g σ As M H){p:Addr}{o:HO}(hp:H p=none):S z g σ As M (upd H p o) where
 sl:=s.sl.stay (aq.laid hp) λa _ u e=>by rw[au (aG e hp)];exact e
 nd:=s.nd
 sub:=s.sub
 own:=s.own
 live:=λm hm=>by
  rcases s.live m hm with ⟨xs,e⟩ |e
  . exact .inl ⟨xs,by rw[au (aG e hp)];exact e⟩
  . exact .inr e
 keep:=λb u e hb ht=>by rw[au (aG (s.keep b u e hb ht) hp)];exact s.keep b u e hb ht
 gW:=s.gW
 m0:=s.m0
 bm:=s.bm
 iP:=s.iP
 tab:=λp h=>(s.tab p h).keep λb u e _=>by rw[au (aG e hp)];exact e
 tm:=s.tm
 tt:=s.tt
theorem S.aN(s:S z g σ As M H){p:Addr}{xs:List V}(hp:H p=none):S z g σ As (p::M) (upd H p (.lst xs)) where
 sl:=s.sl.stay (aq.aN hp) λa _ u e=>by rw[au (aG e hp)];exact e
 nd:=s.nd
 sub:=λa ha=>b0 _ (s.sub a ha)
 own:=s.own
 live:=λm hm=>by
  rcases d0.mp hm with rfl |hm
  . exact .inl ⟨xs,az⟩
  .
   rcases s.live m hm with ⟨ys,e⟩ |e
   . exact .inl ⟨ys,by rw[au (aG e hp)];exact e⟩
   . exact .inr e
 keep:=λb u e hb ht=>by rw[au (aG (s.keep b u e hb ht) hp)];exact s.keep b u e hb ht
 gW:=λm hm=>b0 _ (s.gW m hm)
 m0:=s.m0
 bm:=s.bm
 iP:=s.iP
 tab:=λp h=>(s.tab p h).keep λb u e _=>by rw[au (aG e hp)];exact e
 tm:=s.tm
 tt:=s.tt
theorem S.drop(s:S z g σ As M H)(h0:z.H0 p=none)(hA:p∉As):S z g σ As (M.filter λm=>decide (m≠p)) H where
 sl:=s.sl.stay (aq.less λm hm=>(hV.mp hm).1) λ_ _ _ e=>e
 nd:=s.nd
 sub:=λa ha=>hV.mpr ⟨s.sub a ha,by have:a≠p:=λe=>hA (e▸ha);simpa using this⟩
 own:=s.own
 live:=λm hm=>s.live m (hV.mp hm).1
 keep:=s.keep
 gW:=λm hm=>hV.mpr ⟨s.gW m hm,by have:m≠p:=λe=>s.m0 m hm (e▸h0);simpa using this⟩
 m0:=s.m0
 bm:=s.bm
 iP:=s.iP
 tab:=s.tab
 tm:=s.tm
 tt:=s.tt
end
def cU(z:Z)(g:G)(σ:Sg)(As M:List Addr)(H:Hp):R->V->Prop
 |.dat d,v=>Rep z.K M H d v
 |.new l,v=>∃a xs,v=.ref a/\a∈M/\a∉As/\z.H0 a=none/\H a=some (.lst xs)/\aH z.K M H l xs
 |.var i,v=>∃l,g[i]?=some (.own l)/\σ[i]?=some (some v)
inductive Pk(K:Frag)(M:List Addr)(H:Hp):D->V->Prop
 |of:Rep K M H d v->Pk K M H d v
 |lst {l:List D}{a:Addr}{xs:List V}:H a=some (.lst xs)->aH K M H l xs->Pk K M H (.lst l) (.ref a)
theorem Pk.list{K:Frag}{M:List Addr}{H:Hp}{l:List D}{v:V}(h:Pk K M H (.lst l) v):∃a xs,v=.ref a/\H a=some (.lst xs)/\aH K M H l xs:=by
 cases h with
 |of r=>cases r with |lst h1 h2=>exact⟨_,_,rfl,h1.2,h2⟩
 |lst h1 h2=>exact⟨_,_,rfl,h1,h2⟩
theorem Slots.at{K:Frag}{M:List Addr}{H:Hp}{g:G}{σ:Sg}{As:List Addr}{i:Nat}{l:List D}(q:Slots K M H g σ As)(e:g[i]?=some (.own l)):∃a xs,σ[i]?=some (some (.ref a))/\a∈As/\H a=some (.lst xs)/\aH K M H l xs:=by
 induction q generalizing i with
 |nil=>exact nomatch (show none=some (Slot.own l)from e)
 |no q ih=>cases i with
  |zero=>exact nomatch (show some Slot.no=some (Slot.own l)from e)
  |succ i=>exact ih e
 |dat r q ih=>cases i with
  |zero=>exact nomatch (show some (Slot.dat _)=some (Slot.own l)from e)
  |succ i=>exact ih e
 |own h r q ih=>cases i with
  |zero=>cases (show some (Slot.own _)=some (Slot.own l)from e);exact⟨_,_,rfl,dA,h,r⟩
  |succ i=>obtain⟨a,xs,h1,h2,h3⟩:=ih e;exact⟨a,xs,h1,b0 _ h2,h3⟩
theorem Slots.xQ{K:Frag}{M:List Addr}{H:Hp}{g:G}{σ:Sg}{As:List Addr}{i:Nat}{d:D}(q:Slots K M H g σ As)(e:g[i]?=some (.dat d)):∃v,σ[i]?=some (some v)/\Rep K M H d v:=by
 induction q generalizing i with
 |nil=>exact nomatch (show none=some (Slot.dat d)from e)
 |no q ih=>cases i with
  |zero=>exact nomatch (show some Slot.no=some (Slot.dat d)from e)
  |succ i=>exact ih e
 |dat r q ih=>cases i with
  |zero=>cases (show some (Slot.dat _)=some (Slot.dat d)from e);exact⟨_,rfl,r⟩
  |succ i=>exact ih e
 |own h r q ih=>cases i with
  |zero=>exact nomatch (show some (Slot.own _)=some (Slot.dat d)from e)
  |succ i=>exact ih e
theorem Slots.length{K:Frag}{M:List Addr}{H:Hp}{g:G}{σ:Sg}{As:List Addr}(q:Slots K M H g σ As):g.length=σ.length:=by
 induction q with
 |nil=>rfl
 |no q ih=>exact congrArg (· + 1) ih
 |dat r q ih=>exact congrArg (· + 1) ih
 |own h r q ih=>exact congrArg (· + 1) ih
theorem Slots.fS{K:Frag}{M:List Addr}{H:Hp}{d:D}{v:V}(r:Rep K M H d v){g:G}{σ:Sg}{As:List Addr}(i:Nat)(q:Slots K M H g σ As):∃aA,Slots K M H (g.set i (.dat d)) (σ.set i (some v)) aA/\aA.Sublist As:=by
 induction q generalizing i with
 |nil=>exact⟨[],.nil,.slnil⟩
 |no q ih=>cases i with
  |zero=>exact⟨_,.dat r q,BC _⟩
  |succ i=>obtain⟨aA,h1,h2⟩:=ih i;exact⟨aA,.no h1,h2⟩
 |dat r' q ih=>cases i with
  |zero=>exact⟨_,.dat r q,BC _⟩
  |succ i=>obtain⟨aA,h1,h2⟩:=ih i;exact⟨aA,.dat r' h1,h2⟩
 |own e r' q ih=>cases i with
  |zero=>exact⟨_,.dat r q,List.sublist_cons_self _ _⟩
  |succ i=>obtain⟨aA,h1,h2⟩:=ih i;exact⟨_::aA,.own e r' h1,h2.cons₂ _⟩
theorem Slots.freeze{K:Frag}{M M':List Addr}{H:Hp}(hM:∀m∈M',m∈M){g:G}{σ:Sg}{As:List Addr}{i:Nat}{l:List D}{a:Addr}(q:Slots K M H g σ As)(e:g[i]?=some (.own l))(e2:σ[i]?=some (some (.ref a)))(na:a∉M')(nd:As.Nodup) :
  ∃aA,Slots K M' H (g.set i (.dat (.lst l))) σ aA/\aA.Sublist As/\a∉aA:=by
 induction q generalizing i with
 |nil=>exact nomatch (show none=some (Slot.own l)from e)
 |no q ih=>cases i with
  |zero=>exact nomatch (show some Slot.no=some (Slot.own l)from e)
  |succ i=>obtain⟨aA,h1,h2,h3⟩:=ih e e2 nd;exact⟨aA,.no h1,h2,h3⟩
 |dat r q ih=>cases i with
  |zero=>exact nomatch (show some (Slot.dat _)=some (Slot.own l)from e)
  |succ i=>obtain⟨aA,h1,h2,h3⟩:=ih e e2 nd;exact⟨aA,.dat (r.stay (aq.less hM)) h1,h2,h3⟩
 |@own g σ As b xs ds h r q ih=>cases i with
  |zero=>
   cases (show some (Slot.own _)=some (Slot.own l)from e)
   cases (show some (some (V.ref b))=some (some (V.ref a))from e2)
   exact⟨_,.dat (.lst ⟨na,h⟩ (r.stay (aq.less hM))) (q.stay (aq.less hM) λ_ _ _ e=>e),List.sublist_cons_self _ _,(fA.mp nd).1⟩
  |succ i=>
   obtain⟨aA,h1,h2,h3⟩:=ih e e2 (fA.mp nd).2;refine⟨b::aA,.own h (r.stay (aq.less hM)) h1,h2.cons₂ _,λhm=>?_⟩
   rcases d0.mp hm with z |z
   .
    obtain⟨c,xs,z1,z2,_⟩:=q.at (i:=i) e;cases (show some (some (V.ref c))=some (some (V.ref a))from z1.symm.trans e2)
    exact (fA.mp nd).1 (by rw[<- z];exact z2)
   . exact h3 z
theorem Slots.change{K:Frag}{M:List Addr}{H H':Hp}{l':List D}{a:Addr}{xs':List V}(st:aq M H M H')(ha:H' a=some (.lst xs'))(r':aH K M H' l' xs'){g:G}{σ:Sg}{As:List Addr}{i:Nat}{l:List D}(q:Slots K M H g σ As)(e:g[i]?=some (.own l))(e2:σ[i]?=some (some (.ref a)))(nd:As.Nodup)
  (k:∀b∈As,b≠a->∀o,H b=some o->H' b=some o):Slots K M H' (g.set i (.own l')) σ As:=by
 induction q generalizing i with
 |nil=>exact nomatch (show none=some (Slot.own l)from e)
 |no q ih=>cases i with
  |zero=>exact nomatch (show some Slot.no=some (Slot.own l)from e)
  |succ i=>exact .no (ih e e2 nd k)
 |dat r q ih=>cases i with
  |zero=>exact nomatch (show some (Slot.dat _)=some (Slot.own l)from e)
  |succ i=>exact .dat (r.stay st) (ih e e2 nd k)
 |@own g σ As b xs ds h r q ih=>cases i with
  |zero=>
   cases (show some (some (V.ref b))=some (some (V.ref a))from e2)
   exact .own ha r' (q.stay st λc hc o e=>k c (b0 _ hc) (λz=>(fA.mp nd).1 (by rw[<- z];exact hc)) o e)
  |succ i=>
   refine .own (k b dA (λz=>?_) _ h) (r.stay st) (ih e e2 (fA.mp nd).2 λc hc=>k c (b0 _ hc))
   obtain⟨c,xs,z1,z2,_⟩:=q.at (i:=i) e;cases (show some (some (V.ref c))=some (some (V.ref a))from z1.symm.trans e2)
   exact (fA.mp nd).1 (by rw[z];exact z2)
section
variable{g:G}
theorem fD(h:(g.set i (.dat d))[j]?=some (.own l)):g[j]?=some (.own l)/\j≠i:=by
 by_cases e:i=j
 .
  subst e;by_cases hi:i<g.length
  . rw[eQ hi]at h;cases h
  . rw[tS.mpr (by rw[i4];lia)]at h;cases h
 . rw[eC e]at h;exact⟨h,nN e⟩
theorem S.freeze(s:S z g σ As M H){i:Nat}{l:List D}(hg:g[i]?=some (.own l))(hb:i∉z.bor):∃aA M',S z (g.set i (.dat (.lst l))) σ aA M' H/\aq M H M' H:=by
 obtain⟨a,xs,e1,e2,e3,e4⟩:=s.sl.at hg;have h0:z.H0 a=none:=(s.own i a l hg e1).elim (λq=>absurd q.1 hb) id
 have hM:∀m∈(M.filter λm=>decide (m≠a)),m∈M:=λm hm=>(hV.mp hm).1
 have na:a∉(M.filter λm=>decide (m≠a)):=λhm=>by
  have:=(hV.mp hm).2;simp at this
 obtain⟨aA,q1,q2,q3⟩:=s.sl.freeze hM hg e1 na s.nd;refine⟨aA,_,⟨q1,s.nd.sublist q2,λb hb=>hV.mpr ⟨s.sub b (q2.subset hb),?_⟩,λj b l' h1 h2=>s.own j b l' (fD h1).1 h2,λm hm=>s.live m (hM m hm),s.keep,λm hm=>hV.mpr ⟨s.gW m hm,?_⟩,s.m0,s.bm,λp hp=>⟨(s.iP p hp).1,?_⟩,s.tab,s.tm,s.tt⟩,aq.less hM⟩
 rotate_left 2
 .
  have:i≠p.1:=λe=>hb (by rw[e];exact pE (f:=(·.1)) hp)
  rw[eC this];exact (s.iP p hp).2
 .
  have:b≠a:=λe=>q3 (e▸hb)
  simpa using this
 .
  have:m≠a:=λe=>s.m0 m hm (e▸h0)
  simpa using this
theorem S.write(s:S z g σ As M H){i:Nat}{l l':List D}{a:Addr}{xs':List V}(hg:g[i]?=some (.own l))(e1:σ[i]?=some (some (.ref a)))(r:aH z.K M H l' xs'):S z (g.set i (.own l')) σ As M (upd H a (.lst xs'))/\aq M H M (upd H a (.lst xs')):=by
 obtain⟨b,xs,e2,e3,e4,e5⟩:=s.sl.at hg;rw[e1]at e2;injection e2 with e2;injection e2 with e2;injection e2 with e2;subst e2;have st:aq M H M (upd H a (.lst xs')):=aq.write (s.sub a e3);refine⟨⟨s.sl.change st az (r.stay st) hg e1 s.nd (λb _ ne o e=>by rw[au ne];exact e),s.nd,s.sub,λj b l2 h1 h2=>?_,λm hm=>?_,λb o e hb ht=>?_,s.gW,s.m0,s.bm,λp hp=>⟨(s.iP p hp).1,?_⟩,λp h=>(s.tab p h).keep λb u e nl=>?_,s.tm,s.tt⟩,st⟩
 rotate_left 3
 .
  by_cases hj:i=p.1
  . rw[<- hj];exact⟨l',eQ (dE.mp hg).1⟩
  . rw[eC hj];exact (s.iP p hp).2
 .
  have:b≠a:=λz2=>by subst z2;rw[e4]at e;cases e;exact nl xs rfl
  rw[au this];exact e
 .
  by_cases hj:i=j
  . subst hj;exact s.own i b l hg h2
  . rw[eC hj]at h1;exact s.own j b l2 h1 h2
 .
  by_cases hm2:m=a
  . subst hm2;exact .inl ⟨xs',az⟩
  .
   rcases s.live m hm with ⟨ys,e⟩ |e
   . exact .inl ⟨ys,by rw[au hm2];exact e⟩
   . exact .inr e
 .
  have q:=s.keep b o e hb ht;have:b≠a:=λz2=>by
   subst z2;rcases s.own i b l hg e1 with w |w
   . exact hb w.2
   . rw[w]at e;cases e
  rw[au this];exact q
theorem S.fS(s:S z g σ As M H)(hb:i∉z.bor)(r:Rep z.K M H d v):∃aA,S z (g.set i (.dat d)) (σ.set i (some v)) aA M H:=by
 obtain⟨aA,h1,h2⟩:=s.sl.fS r i;refine⟨aA,h1,s.nd.sublist h2,λa ha=>s.sub a (h2.subset ha),λj b l h3 h4=>?_,s.live,s.keep,s.gW,s.m0,s.bm,λp hp=>?_,s.tab,s.tm,s.tt⟩
 rotate_left
 .
  have:i≠p.1:=λe=>hb (by rw[e];exact pE (f:=(·.1)) hp)
  rw[eC this,eC this];exact s.iP p hp
 obtain⟨h5,h6⟩:=fD h3;rw[eC (nN h6)]at h4;exact s.own j b l h5 h4
theorem Slots.rB{K:Frag}{a:Addr}{xs:List V}{l:List D}(h:H a=some (.lst xs))(r:aH K M H l xs){g:G}{σ:Sg}{As:List Addr}(i:Nat)(q:Slots K M H g σ As)(hi:i<g.length):∃aA,Slots K M H (g.set i (.own l)) (σ.set i (some (.ref a))) aA/\(∀b∈aA,b=a\/b∈As)/\(As.Nodup->a∉As->aA.Nodup):=by
 induction q generalizing i with
 |nil=>exact absurd hi (AZ _)
 |no q ih=>cases i with
  |zero=>exact⟨_,.own h r q,λb hb=>d0.mp hb,λnd na=>fA.mpr ⟨na,nd⟩⟩
  |succ i=>obtain⟨aA,h1,h2,h3⟩:=ih i (At hi);exact⟨aA,.no h1,h2,h3⟩
 |dat r' q ih=>cases i with
  |zero=>exact⟨_,.own h r q,λb hb=>d0.mp hb,λnd na=>fA.mpr ⟨na,nd⟩⟩
  |succ i=>obtain⟨aA,h1,h2,h3⟩:=ih i (At hi);exact⟨aA,.dat r' h1,h2,h3⟩
 |@own g σ As c ys ds e r' q ih=>cases i with
  |zero=>exact⟨_,.own h r q,λb hb=>(d0.mp hb).imp id (b0 _),λnd na=>fA.mpr ⟨λz=>na (b0 _ z),(fA.mp nd).2⟩⟩
  |succ i=>obtain⟨aA,h1,h2,h3⟩:=ih i (At hi);exact⟨c::aA,.own e r' h1,λb hb=>(d0.mp hb).elim (λz=>.inr (z▸dA)) λz=>(h2 b z).imp id (b0 _),λnd na=>fA.mpr ⟨λz=>(h2 c z).elim (λw=>na (w▸dA)) (fA.mp nd).1,h3 (fA.mp nd).2 λw=>na (b0 _ w)⟩⟩
theorem S.rB(s:S z g σ As M H){i:Nat}{l:List D}{a:Addr}{xs:List V}(hb:i∉z.bor)(hi:i<g.length)(hm:a∈M)(hA:a∉As)(h0:z.H0 a=none)(h:H a=some (.lst xs))(r:aH z.K M H l xs):∃aA,S z (g.set i (.own l)) (σ.set i (some (.ref a))) aA M H:=by
 obtain⟨aA,h1,h2,h3⟩:=s.sl.rB h r i hi;refine⟨aA,h1,h3 s.nd hA,λb hb=>(h2 b hb).elim (λe=>e▸hm) (s.sub b),λj b l2 h4 h5=>?_,s.live,s.keep,s.gW,s.m0,s.bm,λp hp=>?_,s.tab,s.tm,s.tt⟩
 rotate_left
 .
  have:i≠p.1:=λe=>hb (by rw[e];exact pE (f:=(·.1)) hp)
  rw[eC this,eC this];exact s.iP p hp
 by_cases hj:i=j
 .
  subst hj;rw[eQ (by rw[<- s.sl.length];exact hi)]at h5
  injection h5 with h5;injection h5 with h5;injection h5 with h5;subst h5;exact .inr h0
 . rw[eC hj]at h4 h5;exact s.own j b l2 h4 h5
end
abbrev Kn (z:Z) (g':G) (σ:Sg) (M:List Addr) (H:Hp) (r:R) (Q:VK):Prop:=
 ∀v H' aA M',S z g' σ aA M' H'->aq M H M' H'->cU z g' σ aA M' H' r v->Q v H'
def aB(X:Cx)(z:Z)(e:Expr)(g:G)(r:R)(g':G):Prop:=
 ∃t,PE X e t/\∀σ As M H Q,S z g σ As M H->Kn z g' σ M H r Q->t σ H Q
def cD(X:Cx)(z:Z)(e:Expr)(g:G)(b:Bool)(g':G):Prop:=
 ∃t,PT X e t/\∀σ As M H (Q:Bool->Hp->Prop),S z g σ As M H->(∀H' aA M',S z g' σ aA M' H'->aq M H M' H'->Q b H')->t σ H Q
def lK(X:Cx)(z:Z)(f:Value->Value->Sem Value)(d1 d2:D)(res:R):Prop:=
 ∃r:R2,k9 X f r/\∀g σ As M H v1 v2 Q,S z g σ As M H->Pk z.K M H d1 v1->Pk z.K M H d2 v2->Kn z g σ M H res Q->r v1 v2 H Q
def Vt(X:Cx)(z:Z)(d1 d2:D)(res:R):Prop:=
 ∃r:R2,X7 X r/\∀g σ As M H v1 v2 Q,S z g σ As M H->Pk z.K M H d1 v1->Pk z.K M H d2 v2->Kn z g σ M H res Q->r v1 v2 H Q
def UnD(X:Cx)(z:Z)(f:Value->Sem Value)(d:D)(res:R):Prop:=
 ∃r:V->Hp->VK->Prop,X3 X f r/\∀g σ As M H v Q,S z g σ As M H->Pk z.K M H d v->Kn z g σ M H res Q->r v H Q
noncomputable def pk:R->G->Option D
 |.dat d,_=>some d
 |.new _,_=>none
 |.var i,g=>match g[i]? with |some (.own l)=>some (.lst l) |_=>none
section
theorem S.pk(s:S z g2 σ As M2 H2)(st:aq M1 H1 M2 H2)(q:cU z g1 σ aO M1 H1 r v)(h:pk r g2=some d):Pk z.K M2 H2 d v:=by
 cases r with
 |dat d'=>have e:d'=d:=n0 h;subst e;exact .of (Rep.stay st q)
 |new l=>cases h
 |var i=>
  obtain⟨l,h1,h2⟩:=q;unfold Ev.pk at h;dsimp only at h;split at h
  . rename_i l' hg;have e:=n0 h;subst e;obtain⟨a,xs,e1,e2,e3,e4⟩:=s.sl.at hg;rw[h2]at e1;injection e1 with e1;injection e1 with e1;subst e1;exact .lst e3 e4
  . cases h
theorem Ov{i j}:aB X z (.Constant (.int i) j pos) g (.dat (.int i)) g:=⟨_,Bw,λσ As M H Q s k=>k _ _ _ _ s (aq.refl _ _) (.int i)⟩
theorem Vu{i j}:aB X z (.Constant (.bool i) j pos) g (.dat (.bl i)) g:=⟨_,UG,λσ As M H Q s k=>k _ _ _ _ s (aq.refl _ _) (.bl i)⟩
theorem Ow{j}:aB X z (.Constant .none j pos) g (.dat .non) g:=⟨_,Bx,λσ As M H Q s k=>k _ _ _ _ s (aq.refl _ _) .non⟩
theorem Ox{x j}:aB X z (.Constant (.str x) j pos) g (.dat (.str x)) g:=⟨_,NB,λσ As M H Q s k=>k _ _ _ _ s (aq.refl _ _) (.str x)⟩
theorem Oz{i:Nat}{x:Str}(hN:X.N[i]?=some x)(hv:gR X.env.scope x)(hd:(x==("__debug__":Str))=false)(bI:(x==("__classdict__":Str))=false)(hg:g[i]?=some (.dat d)):aB X z (.Name x pos) g (.dat d) g:=
 ⟨_,cg hN hv hd bI,λσ As M H Q s k=>let ⟨v,e,r⟩:=s.sl.xQ hg;⟨v,e,k v H As M s (aq.refl _ _) r⟩⟩
theorem Ir(hN:X.N[i]?=some x)(hv:gR X.env.scope x)(hd:(x==("__debug__":Str))=false)(bI:(x==("__classdict__":Str))=false)(hg:g[i]?=some (.own l)):aB X z (.Name x pos) g (.var i) g:=
 ⟨_,cg hN hv hd bI,λσ As M H Q s k=>let ⟨a,xs,e,r⟩:=s.sl.at hg;⟨_,e,k _ H As M s (aq.refl _ _) ⟨l,hg,e⟩⟩⟩
theorem Iu(hg:Gl X x)(hm:X.mg x=some u)(r:RelV v u)(hr:∀M H,Rep z.K M H d v)(hd:(x==("__debug__":Str))=false):aB X z (.Name x pos) g (.dat d) g:=
 ⟨_,xB hg hm r hd,λσ As M H Q s k=>k _ H As M s (aq.refl _ _) (hr M H)⟩
theorem nh(h:aB X z e g (.new l) g'):aB X z e g (.dat (.lst l)) g':=by
 obtain⟨t,p,q⟩:=h;refine⟨t,p,λσ As M H Q s k=>q σ As M H Q s λv H' aA M' s' st r=>?_⟩
 obtain⟨a,xs,rfl,hm,hA,h0,ha,rr⟩:=r;have hM:∀m∈(M'.filter λm=>decide (m≠a)),m∈M':=λm hm=>(hV.mp hm).1
 have na:a∉(M'.filter λm=>decide (m≠a)):=λhm=>by
  have:=(hV.mp hm).2;simp at this
 exact k _ H' aA _ (s'.drop h0 hA) (st.trans (aq.less hM)) (.lst ⟨na,ha⟩ (rr.stay (aq.less hM)))
theorem zp(h:aB X z e g (.var i) g1)(hg:g1[i]?=some (.own l))(hb:i∉z.bor):aB X z e g (.dat (.lst l)) (g1.set i (.dat (.lst l))):=by
 obtain⟨t,p,q⟩:=h;refine⟨t,p,λσ As M H Q s k=>q σ As M H Q s λv H' aA M' s' st r=>?_⟩
 obtain⟨l',h1,h2⟩:=r;obtain⟨bu,M2,s2,aL⟩:=s'.freeze hg hb;have hi:i<g1.length:=(dE.mp hg).1;obtain⟨v',e1,e2⟩:=s2.sl.xQ (i:=i) (d:=.lst l) (by rw[eQ hi])
 rw[h2]at e1;injection e1 with e1;injection e1 with e1;subst e1;exact k _ H' bu M2 s2 (st.trans aL) e2
theorem OD(h1:aB X z a g r1 g1)(h2:aB X z b g1 r2 g2)(p1:pk r1 g2=some d1)(p2:pk r2 g2=some d2)(ho:lK X z (binaryOp op) d1 d2 r):aB X z (.BinOp a op b pos) g r g2:=by
 obtain⟨t1,q1,k1⟩:=h1;obtain⟨t2,q2,k2⟩:=h2;obtain⟨rr,o,ko⟩:=ho;exact⟨_,U7 o q1 q2,λσ As M H Q s k=>k1 σ As M H _ s λv1 H1 aO M1 s1 dB R1=>k2 σ aO M1 H1 _ s1 λv2 H2 bu M2 s2 aL R2=>
  ko g2 σ bu M2 H2 v1 v2 Q s2 (s2.pk aL R1 p1) (s2.pk (aq.refl _ _) R2 p2) λv H' aA M' s' st' R'=>k v H' aA M' s' (dB.trans (aL.trans st')) R'⟩
theorem OJ(h1:aB X z a g r1 g1)(h2:aB X z b g1 r2 g2)(p1:pk r1 g2=some d1)(p2:pk r2 g2=some d2)(ho:lK X z (compareOp op) d1 d2 r)(hm:behindInMarks op b=false):aB X z (.Compare a [op] [b] pos) g r g2:=by
 obtain⟨t1,q1,k1⟩:=h1;obtain⟨t2,q2,k2⟩:=h2;obtain⟨rr,o,ko⟩:=ho;exact⟨_,xG o q1 q2 hm,λσ As M H Q s k=>k1 σ As M H _ s λv1 H1 aO M1 s1 dB R1=>k2 σ aO M1 H1 _ s1 λv2 H2 bu M2 s2 aL R2=>
  ko g2 σ bu M2 H2 v1 v2 Q s2 (s2.pk aL R1 p1) (s2.pk (aq.refl _ _) R2 p2) λv H' aA M' s' st' R'=>k v H' aA M' s' (dB.trans (aL.trans st')) R'⟩
theorem Vv(h1:aB X z a g r1 g1)(h2:aB X z b g1 r2 g2)(p1:pk r1 g2=some d1)(p2:pk r2 g2=some d2)(ho:Vt X z d1 d2 r)(hs:qY b):aB X z (.Subscript a b pos) g r g2:=by
 obtain⟨t1,q1,k1⟩:=h1;obtain⟨t2,q2,k2⟩:=h2;obtain⟨rr,o,ko⟩:=ho;exact⟨_,Mk o q1 q2 hs,λσ As M H Q s k=>k1 σ As M H _ s λv1 H1 aO M1 s1 dB R1=>k2 σ aO M1 H1 _ s1 λv2 H2 bu M2 s2 aL R2=>
  ko g2 σ bu M2 H2 v1 v2 Q s2 (s2.pk aL R1 p1) (s2.pk (aq.refl _ _) R2 p2) λv H' aA M' s' st' R'=>k v H' aA M' s' (dB.trans (aL.trans st')) R'⟩
theorem Vw(h1:aB X z a g r1 g1)(p1:pk r1 g1=some d1)(ho:UnD X z (unaryOp op) d1 r):aB X z (.UnaryOp op a pos) g r g1:=by obtain⟨t1,q1,k1⟩:=h1;obtain⟨rr,o,ko⟩:=ho;exact⟨_,Mi o q1,λσ As M H Q s k=>k1 σ As M H _ s λv1 H1 aO M1 s1 dB R1=>ko g1 σ aO M1 H1 v1 Q s1 (s1.pk (aq.refl _ _) R1 p1) λv H' aA M' s' st' R'=>k v H' aA M' s' (dB.trans st') R'⟩
theorem eW(q:cU z g σ As M H (.dat (.bl c)) v):v=.bl c:=by have q':Rep z.K M H (.bl c) v:=q;cases q';rfl
theorem O1(h1:aB X z a g r1 g1)(h2:aB X z b g1 r2 g2)(p1:pk r1 g2=some d1)(p2:pk r2 g2=some d2)(ho:lK X z (compareOp op) d1 d2 (.dat (.bl c)))(hm:behindInMarks op b=false):cD X z (.Compare a [op] [b] pos) g c g2:=by
 obtain⟨t1,q1,k1⟩:=h1;obtain⟨t2,q2,k2⟩:=h2;obtain⟨rr,o,ko⟩:=ho;exact⟨_,qU o q1 q2 hm,λσ As M H Q s k=>k1 σ As M H _ s λv1 H1 aO M1 s1 dB R1=>k2 σ aO M1 H1 _ s1 λv2 H2 bu M2 s2 aL R2=>
  ko g2 σ bu M2 H2 v1 v2 _ s2 (s2.pk aL R1 p1) (s2.pk (aq.refl _ _) R2 p2) λv H' aA M' s' st' R'=>⟨c,eW R',k H' aA M' s' (dB.trans (aL.trans st'))⟩⟩
theorem O2(h:cD X z a g c g'):cD X z (.UnaryOp .Not a pos) g (!c) g':=by obtain⟨t,q,k⟩:=h;exact⟨_,By q,λσ As M H Q s kk=>k σ As M H _ s λH' aA M' s' st=>kk H' aA M' s' st⟩
def lM(X:Cx)(z:Z)(e:Expr)(g:G)(b:Bool)(g':G):Prop:=
 ∃t,PW X e t/\∀σ As M H (Q:Bool->Hp->Prop),S z g σ As M H->(∀H' aA M',S z g' σ aA M' H'->aq M H M' H'->Q b H')->t σ H Q
theorem lM.tr(h:lM X z e g c g'):cD X z e g c g':=let ⟨t,q,k⟩:=h;⟨t,q.pt,k⟩
theorem Iv(h:cD X z a g c g'):lM X z (.BoolOp .And [a] pos) g c g':=let ⟨t,q,k⟩:=h;⟨t,pw_and1 q,k⟩
theorem O4(h:cD X z a g c g'):lM X z (.BoolOp .Or [a] pos) g c g':=let ⟨t,q,k⟩:=h;⟨t,pw_or1 q,k⟩
def tNo:TT:=λ_ _ _=>False
theorem pw_never:PW X e tNo:=λ_ _ _ _ _ _ _ h=>h.elim
theorem jK:PE X e (λ_ _ _=>False):=λ_ _ _ _ _ _ h=>h.elim
theorem Iw{rest:List Expr}(h:cD X z a g false g1):lM X z (.BoolOp .And (a::b::rest) pos) g false g1:=by obtain⟨t,q,k⟩:=h;exact⟨_,pw_and q pw_never,λσ As M H Q s kk=>k σ As M H _ s λH' aA M' s' st=>o9 (kk H' aA M' s' st)⟩
theorem Iz{rest:List Expr}{c:Bool}(h:cD X z a g true g1)(h2:lM X z (.BoolOp .And (b::rest) pos) g1 c g2):lM X z (.BoolOp .And (a::b::rest) pos) g c g2:=by obtain⟨t,q,k⟩:=h;obtain⟨t2,q2,k2⟩:=h2;exact⟨_,pw_and q q2,λσ As M H Q s kk=>k σ As M H _ s λH' aA M' s' st=>j6 (k2 σ aA M' H' Q s' λH2 bu M2 s2 aL=>kk H2 bu M2 s2 (st.trans aL))⟩
theorem O5{rest:List Expr}(h:cD X z a g true g1):lM X z (.BoolOp .Or (a::b::rest) pos) g true g1:=by obtain⟨t,q,k⟩:=h;exact⟨_,pw_or q pw_never,λσ As M H Q s kk=>k σ As M H _ s λH' aA M' s' st=>j6 (kk H' aA M' s' st)⟩
theorem O6{rest:List Expr}{c:Bool}(h:cD X z a g false g1)(h2:lM X z (.BoolOp .Or (b::rest) pos) g1 c g2):lM X z (.BoolOp .Or (a::b::rest) pos) g c g2:=by obtain⟨t,q,k⟩:=h;obtain⟨t2,q2,k2⟩:=h2;exact⟨_,pw_or q q2,λσ As M H Q s kk=>k σ As M H _ s λH' aA M' s' st=>o9 (k2 σ aA M' H' Q s' λH2 bu M2 s2 aL=>kk H2 bu M2 s2 (st.trans aL))⟩
theorem Cy(h:aB X z a g r g'):aB X z (.BoolOp op [a] pos) g r g':=let ⟨t,q,k⟩:=h;⟨t,NK q,k⟩
theorem IK{rest:List Expr}(h:aB X z a g (.dat (.bl false)) g1):aB X z (.BoolOp .And (a::b::rest) pos) g (.dat (.bl false)) g1:=by obtain⟨t,q,k⟩:=h;exact⟨_,BG q jK,λσ As M H Q s kk=>k σ As M H _ s λv H' aA M' s' st R=>⟨false,eW R,o9 (kk _ H' aA M' s' st (.bl false))⟩⟩
theorem IV{rest:List Expr}(h:aB X z a g (.dat (.bl true)) g1)(h2:aB X z (.BoolOp .And (b::rest) pos) g1 r g2):aB X z (.BoolOp .And (a::b::rest) pos) g r g2:=by obtain⟨t,q,k⟩:=h;obtain⟨t2,q2,k2⟩:=h2;exact⟨_,BG q q2,λσ As M H Q s kk=>k σ As M H _ s λv H' aA M' s' st R=>⟨true,eW R,j6 (k2 σ aA M' H' Q s' λv2 H2 bu M2 s2 aL=>kk v2 H2 bu M2 s2 (st.trans aL))⟩⟩
theorem O7{rest:List Expr}(h:aB X z a g (.dat (.bl true)) g1):aB X z (.BoolOp .Or (a::b::rest) pos) g (.dat (.bl true)) g1:=by obtain⟨t,q,k⟩:=h;exact⟨_,Mf q jK,λσ As M H Q s kk=>k σ As M H _ s λv H' aA M' s' st R=>⟨true,eW R,j6 (kk _ H' aA M' s' st (.bl true))⟩⟩
theorem O8{rest:List Expr}(h:aB X z a g (.dat (.bl false)) g1)(h2:aB X z (.BoolOp .Or (b::rest) pos) g1 r g2):aB X z (.BoolOp .Or (a::b::rest) pos) g r g2:=by obtain⟨t,q,k⟩:=h;obtain⟨t2,q2,k2⟩:=h2;exact⟨_,Mf q q2,λσ As M H Q s kk=>k σ As M H _ s λv H' aA M' s' st R=>⟨false,eW R,o9 (k2 σ aA M' H' Q s' λv2 H2 bu M2 s2 aL=>kk v2 H2 bu M2 s2 (st.trans aL))⟩⟩
theorem O9(h:aB X z a g (.dat (.bl c)) g1):aB X z (.UnaryOp .Not a pos) g (.dat (.bl (!c))) g1:=by obtain⟨t,q,k⟩:=h;exact⟨_,NP q,λσ As M H Q s kk=>k σ As M H _ s λv H' aA M' s' st R=>⟨c,eW R,kk _ H' aA M' s' st (.bl _)⟩⟩
theorem Pa(h:cD X z c g true g1)(h2:aB X z a g1 r g2):aB X z (.IfExp c a b pos) g r g2:=by obtain⟨t,q,k⟩:=h;obtain⟨t2,q2,k2⟩:=h2;exact⟨_,sV q q2 jK,λσ As M H Q s kk=>k σ As M H _ s λH' aA M' s' st=>j6 (k2 σ aA M' H' Q s' λv2 H2 bu M2 s2 aL=>kk v2 H2 bu M2 s2 (st.trans aL))⟩
theorem Pb(h:cD X z c g false g1)(h2:aB X z b g1 r g2):aB X z (.IfExp c a b pos) g r g2:=by obtain⟨t,q,k⟩:=h;obtain⟨t2,q2,k2⟩:=h2;exact⟨_,sV q jK q2,λσ As M H Q s kk=>k σ As M H _ s λH' aA M' s' st=>o9 (k2 σ aA M' H' Q s' λv2 H2 bu M2 s2 aL=>kk v2 H2 bu M2 s2 (st.trans aL))⟩
inductive jh(z:Z)(σ:Sg)(M:List Addr)(H:Hp):List R->List V->Prop
 |nil:jh z σ M H [] []
 |dat {d:D}{v:V}{rs:List R}{vs:List V}:Rep z.K M H d v->jh z σ M H rs vs->jh z σ M H (.dat d::rs) (v::vs)
 |var {i:Nat}{v:V}{rs:List R}{vs:List V}:σ[i]?=some (some v)->jh z σ M H rs vs->jh z σ M H (.var i::rs) (v::vs)
def cQ(X:Cx)(z:Z)(es:List Expr)(g:G)(rs:List R)(g':G):Prop:=
 ∃t,PA X es t/\∀σ As M H (Q:List V->Hp->Prop),S z g σ As M H->(∀vs H' aA M',S z g' σ aA M' H'->aq M H M' H'->jh z σ M' H' rs vs->Q vs H')->t σ H Q
theorem ez:cQ X z [] g [] g:=⟨_,dR,λσ As M H Q s k=>k [] H As M s (aq.refl _ _) .nil⟩
theorem dW(h:aB X z e g (.dat d) g1)(h2:cQ X z es g1 rs g2)(hs:starEach (e::es) X.env=(false,eval e X.env)::starEach es X.env):cQ X z (e::es) g (.dat d::rs) g2:=by obtain⟨t,q,k⟩:=h;obtain⟨t2,q2,k2⟩:=h2;exact⟨_,bC q q2 hs,λσ As M H Q s kk=>k σ As M H _ s λv H' aA M' s' st R=>k2 σ aA M' H' _ s' λvs H2 bu M2 s2 aL R2=>kk _ H2 bu M2 s2 (st.trans aL) (.dat (Rep.stay aL R) R2)⟩
theorem Cz(h:aB X z e g (.var i) g1)(h2:cQ X z es g1 rs g2)(hs:starEach (e::es) X.env=(false,eval e X.env)::starEach es X.env):cQ X z (e::es) g (.var i::rs) g2:=by obtain⟨t,q,k⟩:=h;obtain⟨t2,q2,k2⟩:=h2;exact⟨_,bC q q2 hs,λσ As M H Q s kk=>k σ As M H _ s λv H' aA M' s' st ⟨_,_,R⟩=>k2 σ aA M' H' _ s' λvs H2 bu M2 s2 aL R2=>kk _ H2 bu M2 s2 (st.trans aL) (.var R R2)⟩
inductive IW(K:Frag)(M:List Addr)(H:Hp):List D->List V->Prop
 |nil:IW K M H [] []
 |cons {d:D}{v:V}{ds:List D}{vs:List V}:Pk K M H d v->IW K M H ds vs->IW K M H (d::ds) (v::vs)
def tK:List R->G->Option (List D)
 | [],_=>some []
 |r::rs,g=>match pk r g,tK rs g with
  |some d,some ds=>some (d::ds)
  |_,_=>none
theorem S.tK(s:S z g σ As M H)(q:jh z σ M H rs vs)(e:tK rs g=some ds):IW z.K M H ds vs:=by
 induction q generalizing ds with
 |nil=>cases e;exact .nil
 |@dat d v rs vs r q ih=>
  unfold Ev.tK at e;cases e2:Ev.tK rs g with
  |none=>rw[e2]at e;cases e
  |some ds=>rw[e2]at e;cases e;exact .cons (.of r) (ih e2)
 |@var i v rs vs r q ih=>
  unfold Ev.tK at e;cases e1:Ev.pk (.var i) g with
  |none=>rw[e1]at e;cases e
  |some d=>
   cases e2:Ev.tK rs g with
   |none=>rw[e1,e2]at e;cases e
   |some ds=>
    rw[e1,e2]at e;cases e;unfold Ev.pk at e1;dsimp only at e1;split at e1
    . rename_i l hg;cases e1;obtain⟨a,xs,h1,h2,h3,h4⟩:=s.sl.at hg;rw[r]at h1;injection h1 with h1;injection h1 with h1;subst h1;exact .cons (.lst h3 h4) (ih e2)
    . cases e1
noncomputable def tL:List R->Option (List D)
 | []=>some []
 |.dat d::rs=>match tL rs with |some ds=>some (d::ds) |none=>none
 |_::_=>none
theorem xR(q:jh z σ M H rs vs)(e:tL rs=some ds):aH z.K M H ds vs:=by
 induction q generalizing ds with
 |nil=>cases e;exact .nil
 |@dat d v rs vs r q ih=>
  unfold tL at e;cases e2:tL rs with
  |none=>rw[e2]at e;cases e
  |some ds=>rw[e2]at e;cases e;exact .cons r (ih e2)
 |var _ _ _=>cases e
theorem nj(h:n<=16777216):n<=sizeLine:=by rw[l5];exact h
theorem Ph{x1}(h:cQ X z es g rs g')(hd:tL rs=some ds)(hl:ds.length<=16777216):aB X z (.Tuple es x1 pos) g (.dat (.tup ds)) g':=by
 obtain⟨t,q,k⟩:=h;refine⟨_,Cb q,λσ As M H Q s kk=>k σ As M H _ s λvs H' aA M' s' st R=>?_⟩
 have rr:=xR R hd;refine⟨by rw[<- rr.length];exact nj hl,λp hp=>kk _ _ aA M' (s'.laid hp) (st.trans (aq.laid hp)) (.tup (.inl ⟨s'.fresh hp,.inl az⟩) (rr.stay (aq.laid hp)))⟩
theorem Pj(h:cQ X z es g rs g')(hd:tL rs=some ds)(hl:ds.length<=16777216):aB X z (.List es pos) g (.new ds) g':=by
 obtain⟨t,q,k⟩:=h;refine⟨_,vF q,λσ As M H Q s kk=>k σ As M H _ s λvs H' aA M' s' st R=>?_⟩
 have rr:=xR R hd;refine⟨by rw[<- rr.length];exact nj hl,λp hp=>kk _ _ aA (p::M') (s'.aN hp) (st.trans (aq.aN hp)) ⟨p,vs,rfl,dA,λhA=>s'.fresh hp (s'.sub p hA),s'.bR hp,az,rr.stay (aq.aN hp)⟩⟩
def CallD(X:Cx)(z:Z)(f:Value)(ds:List D)(res:R):Prop:=
 ∃r,eV X f r/\∀g σ As M H vs Q,S z g σ As M H->IW z.K M H ds vs->Kn z g σ M H res Q->r vs H Q
theorem fE{x:Str}{id:String}{p:Pos}{es:List Expr}{rs:List R}{ds:List D}(h:cQ X z (e::es) g rs g')(hp:tK rs g'=some ds)(hc:CallD X z (.builtin id) ds r)(hg:Gl X x)(hm:X.mg x=none)(hv:bootBuiltins x=some (.builtin id))(hn:x≠ "__name__")(je:(x==("__debug__":Str))=false)
  (he:starEach (e::es) X.env=(false,eval e X.env)::starEach es X.env) (iB:(backTo pos (starEach es X.env)).any (·.1)=false):aB X z (.Call (.Name x p) (e::es) [] pos) g r g':=by
 obtain⟨t,q,k⟩:=h;obtain⟨rr,c,kc⟩:=hc;exact⟨_,jG c hg hm hv q hn je he iB,λσ As M H Q s kk=>k σ As M H _ s λvs H' aA M' s' st R=>kc g' σ aA M' H' vs Q s' (s'.tK R hp) λv H2 bu M2 s2 aL R2=>kk v H2 bu M2 s2 (st.trans aL) R2⟩
theorem j7(h:cQ X z (e::es) g rs g')(hp:tK rs g'=some ds)(hc:CallD X z (.type T) ds r)(hg:Gl X x)(hm:X.mg x=none)(hv:bootBuiltins x=some (.type T))(hn:x≠ "__name__")(je:(x==("__debug__":Str))=false)
  (he:starEach (e::es) X.env=(false,eval e X.env)::starEach es X.env) (iB:(backTo pos (starEach es X.env)).any (·.1)=false):aB X z (.Call (.Name x p) (e::es) [] pos) g r g':=by
 obtain⟨t,q,k⟩:=h;obtain⟨rr,c,kc⟩:=hc;exact⟨_,zg c hg hm hv q hn je he iB,λσ As M H Q s kk=>k σ As M H _ s λvs H' aA M' s' st R=>kc g' σ aA M' H' vs Q s' (s'.tK R hp) λv H2 bu M2 s2 aL R2=>kk v H2 bu M2 s2 (st.trans aL) R2⟩
end
mutual
noncomputable def cM:D->D->Bool
 |.non,.non=>true
 |.bl a,.bl b=>a==b
 |.bl a,.int j=>(if a then 1 else 0)==j
 |.int i,.bl b=>i==(if b then 1 else 0)
 |.int i,.int j=>i==j
 |.str x,.str y=>x==y
 |.tup l,.tup m=>d8 l m
 |.lst l,.lst m=>d8 l m
 |.lst l,.fix m=>d8 l m
 |.fix l,.lst m=>d8 l m
 |.fix l,.fix m=>d8 l m
 |_,_=>false
noncomputable def d8:List D->List D->Bool
 | [],[]=>true
 |a::l,b::m=>cM a b&&d8 l m
 |_,_=>false
end
mutual
noncomputable def dep:D->Nat
 |.tup l=>deps l+1
 |.lst l=>deps l+1
 |.fix l=>deps l+1
 |_=>0
noncomputable def deps:List D->Nat
 | []=>0
 |d::l=>max (dep d) (deps l)
end
mutual
noncomputable def jz:D->Bool
 |.tup l=>lN l
 |.lst l=>lN l
 |.fix l=>lN l
 |.emp=>false
 |.lq _=>false
 |_=>true
noncomputable def lN:List D->Bool
 | []=>true
 |d::l=>jz d&&lN l
end
mutual
inductive Dv(h:Heap):D->Value->Prop
 |non:Dv h .non .none
 |bl (b:Bool):Dv h (.bl b) (.bool b)
 |int (i:Int) (t:Tok):Dv h (.int i) (.int i t)
 |str (x:Str) (t:Tok):Dv h (.str x) (.str x t)
 |tup {l:List D}{a:Addr}{us:List Value}:IsTup h a us.toArray->lV h l us->Dv h (.tup l) (.ref a)
 |lst {l:List D}{a:Addr}{us:List Value}:h.IsList a us.toArray->lV h l us->Dv h (.lst l) (.ref a)
 |fix {l:List D}{a:Addr}{us:List Value}:h.IsList a us.toArray->lV h l us->Dv h (.fix l) (.ref a)
inductive lV(h:Heap):List D->List Value->Prop
 |nil:lV h [] []
 |cons {d:D}{ds:List D}{u:Value}{us:List Value}:Dv h d u->lV h ds us->lV h (d::ds) (u::us)
end
section
theorem Rep.dv2(I:Inv X ah σ H s)(q:Rep X.K M H d v):∀u,RelV v u->jz d=true->Dv s.heap d u:=by
 refine Rep.rec (motive_1:=λd v _=>∀u,RelV v u->jz d=true->Dv s.heap d u) (motive_2:=λds vs _=>∀us,Vals vs us->lN ds=true->lV s.heap ds us) ?_ ?_ ?_ ?_ ?_ ?_ ?_ ?_ ?_ ?_ ?_ q
 . intro u r _;cases r;exact .non
 . intro b u r _;cases r;exact .bl b
 . intro i u r _;obtain⟨t,rfl⟩:=r;exact .int i t
 . intro x u r _;obtain⟨t,rfl⟩:=r;exact .str x t
 . intro l a xs h _ ih u r p;cases r;obtain⟨its,rv,ht,hz⟩:=I.tuple h.sq;exact .tup ht (ih _ rv p)
 . intro l a xs h _ ih u r p;cases r;obtain⟨its,rv,ht,hz⟩:=I.list (bX.of h.2);exact .lst ht.isList (ih _ rv p)
 . intro l a xs h _ ih u r p;cases r;obtain⟨its,rv,ht,hz⟩:=I.list h.sq;exact .fix ht.isList (ih _ rv p)
 . intro a _ _ u _ p;exact Bool.noConfusion (show false=true from p)
 . intro C a _ _ _ u _ p;exact Bool.noConfusion (show false=true from p)
 . intro us r _;cases r;exact .nil
 .
  intro d ds x xs _ _ i1 i2 us r p;cases r with
  |cons r1 r2=>have p:(jz d&&lN ds)=true:=p;rw[eP]at p;exact .cons (i1 _ r1 p.1) (i2 _ r2 p.2)
theorem Rep.dv(I:Inv X ah σ H s)(q:Rep X.K M H d v)(r:RelV v u)(p:jz d=true):Dv s.heap d u:=q.dv2 I u r p
theorem aH.dv(I:Inv X ah σ H s)(q:aH X.K M H ds vs)(r:Vals vs us)(p:lN ds=true):lV s.heap ds us:=by
 induction ds generalizing vs us with
 |nil=>cases q;cases r;exact .nil
 |cons d ds ih=>cases q with |cons q1 q2=>cases r with |cons r1 r2=>have p:(jz d&&lN ds)=true:=p;rw[eP]at p;exact .cons (q1.dv I r1 p.1) (ih q2 r2 p.2)
theorem Pk.dv(I:Inv X ah σ H s)(h:Pk X.K M H d v)(r:RelV v u)(p:jz d=true):Dv s.heap d u:=by
 cases h with
 |of q=>exact q.dv I r p
 |lst h q=>cases r;obtain⟨its,rv,ht,hz⟩:=I.list (bX.of h);exact .lst ht.isList (aH.dv I q rv (by simpa [jz]using p))
end
theorem lV.length(q:lV h l us):l.length=us.length:=by
 induction l generalizing us with
 |nil=>cases q;rfl
 |cons d l ih=>cases q with |cons a b=>exact congrArg (· + 1) (ih b)
theorem qa{h:Heap}{a:Addr}{us ws:List Value}(x:IsTup h a us.toArray)(y:IsTup h a ws.toArray):us=ws:=by obtain⟨o,e,_,n,d⟩:=x;obtain⟨o',e',_,n',d'⟩:=y;rw[e]at e';cases e';rw[d]at d';injection d' with d1 _;simpa using congrArg Array.toList d1
theorem bS{h:Heap}{a:Addr}{us ws:List Value}(x:h.IsList a us.toArray)(y:h.IsList a ws.toArray):us=ws:=by obtain⟨o,e,_,n,d⟩:=x;obtain⟨o',e',_,n',d'⟩:=y;rw[e]at e';cases e';rw[d]at d';injection d' with d1 _;simpa using congrArg Array.toList d1
theorem dN(x:IsTup h a us)(y:h.IsList a ws):False:=by obtain⟨o,e,c,_⟩:=x;obtain⟨o',e',c',_⟩:=y;rw[e]at e';cases e';rw[c]at c';injection c' with c';exact absurd c' ⋯
theorem CG{h:Heap}{d1:D}{u:Value}(q:Dv h d1 u):∀d2,Dv h d2 u->cM d1 d2=true:=by
 refine Dv.rec (motive_1:=λd1 u _=>∀d2,Dv h d2 u->cM d1 d2=true) (motive_2:=λl us _=>∀m,lV h m us->d8 l m=true) ?_ ?_ ?_ ?_ ?_ ?_ ?_ ?_ ?_ q
 . intro d2 q;cases q;rfl
 . intro b d2 q;cases q;exact BO b
 . intro i t d2 q;cases q;exact BO i
 . intro x t d2 q;cases q;exact BO x
 .
  intro l a us x _ ih d2 q;cases q with
  |tup y q'=>cases qa x y;exact ih _ q'
  |lst y _=>exact (dN x y).elim
  |fix y _=>exact (dN x y).elim
 .
  intro l a us x _ ih d2 q;cases q with
  |tup y _=>exact (dN y x).elim
  |lst y q'=>cases bS x y;exact ih _ q'
  |fix y q'=>cases bS x y;exact ih _ q'
 .
  intro l a us x _ ih d2 q;cases q with
  |tup y _=>exact (dN y x).elim
  |lst y q'=>cases bS x y;exact ih _ q'
  |fix y q'=>cases bS x y;exact ih _ q'
 . intro m q;cases q;rfl
 .
  intro d ds u us _ _ i1 i2 m q;cases q with
  |@cons d' m _ _ b q'=>show (cM d d'&&d8 ds m)=true;rw[i1 _ b,i2 _ q'];rfl
theorem Ja(q:Dv h d1 u)(q':Dv h d2 u):cM d1 d2=true:=CG q d2 q'
def Mr(l m:List D)(j:Nat):Bool:=match l[j]?,m[j]? with |some a,some b=>cM a b |_,_=>false
theorem nk(l m:List D)(h:l.length=m.length):(List.range l.length).all (Mr l m)=d8 l m:=by
 induction l generalizing m with
 |nil=>cases m with
  |nil=>rfl
  |cons _ _=>cases h
 |cons a l ih=>cases m with
  |nil=>cases h
  |cons b m=>rw[kS,List.range_succ_eq_map,List.all_cons,Cs];have e:(Mr (a::l) (b::m) ∘ Nat.succ)=Mr l m:=rfl;rw[e,ih m (BI h)];rfl
theorem nq(l m:List D)(h:l.length≠m.length):d8 l m=false:=by
 induction l generalizing m with
 |nil=>cases m with
  |nil=>exact absurd rfl h
  |cons _ _=>rfl
 |cons a l ih=>cases m with
  |nil=>rfl
  |cons b m=>show (cM a b&&d8 l m)=false;rw[ih m (λe=>h (congrArg (· + 1) e)),Bool.and_false]
theorem tM(l m:List D):((List.range (min l.length m.length)).all (Mr l m)&&l.length==m.length)=d8 l m:=by
 by_cases h:l.length=m.length
 . rw[h,Nat.min_self,<- h,nk l m h];simp
 .
  rw[nq l m h];have:(l.length==m.length)=false:=by simpa using h
  rw[this,Bool.and_false]
theorem nu{l:List D}{j:Nat}{d:D}(e:l[j]?=some d):dep d<=deps l:=by
 induction l generalizing j with
 |nil=>exact nomatch (show none=some d from e)
 |cons d' l ih=>cases j with
  |zero=>cases (show some d'=some d from e);exact Nat.le_max_left _ _
  |succ j=>exact l6 (ih (show l[j]?=some d from e)) (Nat.le_max_right _ _)
theorem lV.get{h:Heap}{l:List D}{us:List Value}{j:Nat}{u:Value}(q:lV h l us)(e:us[j]?=some u):∃d,l[j]?=some d/\Dv h d u:=by
 induction l generalizing us j with
 |nil=>cases q;exact nomatch (show none=some u from e)
 |cons d' l ih=>cases q with |@cons _ _ u' us a b=>cases j with
  |zero=>cases (show some u'=some u from e);exact⟨_,rfl,a⟩
  |succ j=>obtain⟨d,h⟩:=ih (j:=j) b e;exact⟨d,h⟩
theorem in1_units(A:Around):A.in1.units=A.units+1:=rfl
section
theorem jL(hl:s.heap.IsList l us.toArray)(hb:s.heap.IsList b ws.toArray)(q:lV s.heap ls us)(q':lV s.heap ms ws)(hu:A.units<cLine)
  (he:∀(j:Nat) d1 d2 u1 u2,ls[j]?=some d1->Dv s.heap d1 u1->Dv s.heap d2 u2->SeqAt.EqAt A.in1 s u1 u2 (cM d1 d2)):SeqAt.RcAt A s (.ref l) (.ref b) (d8 ls ms):=by
 have h1:=q.length;have h2:=q'.length;by_cases h:ls.length=ms.length
 .
  rw[<- nk ls ms h];have e:us.toArray.size=ls.length:=by rw[dC,h1]
  rw[<- e];refine SeqAt.RcAt.lists hl hb (by rw[dC,dC];lia) hu λj g1 g2=>?_
  rw[dC]at g1 g2;obtain⟨d1,e1,v1⟩:=q.get (j:=j) (u:=us[j]) (by simp[g1])
  obtain⟨d2,e2,v2⟩:=q'.get (j:=j) (u:=ws[j]) (by simp[g2])
  have:=he j d1 d2 us[j] ws[j] e1 v1 v2;simpa [Mr,e1,e2]using this
 . rw[nq ls ms h];refine SeqAt.RcAt.lists_lengths hl hb ?_ hu;rw[dC,dC];simp only[bne_iff_ne];lia
theorem zq(hl:IsTup s.heap l us.toArray)(hb:IsTup s.heap b ws.toArray)(q:lV s.heap ls us)(q':lV s.heap ms ws)(hu:A.units<cLine)
  (he:∀(j:Nat) d1 d2 u1 u2,ls[j]?=some d1->Dv s.heap d1 u1->Dv s.heap d2 u2->SeqAt.EqAt A.in1 s u1 u2 (cM d1 d2)):SeqAt.RcAt A s (.ref l) (.ref b) (d8 ls ms):=by
 have h1:=q.length;have h2:=q'.length;have e:us.toArray.size=ls.length:=by rw[dC,h1]
 have e':ws.toArray.size=ms.length:=by rw[dC,h2]
 rw[<- tM,<- e,<- e'];refine SeqAt.RcAt.tuples hl hb hu λj g1 g2=>?_
 rw[dC]at g1 g2;obtain⟨d1,e1,v1⟩:=q.get (j:=j) (u:=us[j]) (by simp[g1])
 obtain⟨d2,e2,v2⟩:=q'.get (j:=j) (u:=ws[j]) (by simp[g2])
 have:=he j d1 d2 us[j] ws[j] e1 v1 v2;simpa [Mr,e1,e2]using this
theorem gX(x:Dv s.heap d1 (.ref l))(y:Dv s.heap d2 (.ref b))(h:SeqAt.RcAt A s (.ref l) (.ref b) (cM d1 d2)):SeqAt.EqAt A s (.ref l) (.ref b) (cM d1 d2):=by
 by_cases e:l=b
 . subst e;rw[Ja x y];exact .same _
 . exact .of_refs e h
end
theorem CJ{s:Shared}:∀(n:Nat) {d1 d2:D}{u1 u2:Value}{A:Around},dep d1<=n->Dv s.heap d1 u1->Dv s.heap d2 u2->A.units+n<cLine->SeqAt.EqAt A s u1 u2 (cM d1 d2)/\SeqAt.RcAt A s u1 u2 (cM d1 d2):=by
 intro n
 induction n with
 |zero=>
  intro d1 d2 u1 u2 A hn x y hu;have aQ:A.units<cLine:=by lia
  cases x with
  |tup h q=>exact absurd hn (BS _)
  |lst h q=>exact absurd hn (BS _)
  |fix h q=>exact absurd hn (BS _)
  |non=>
   cases y with
   |non=>exact⟨.same _,.none_none⟩
   |bl c'=>exact⟨.none_bool c',.none_bool c'⟩
   |int c' t'=>exact⟨.none_int c' t',.none_int c' t'⟩
   |str c' t'=>exact⟨.none_str c' t',.none_str c' t'⟩
   |tup h' q'=>exact⟨.none_tuple h' aQ,.none_tuple h' aQ⟩
   |lst h' q'=>exact⟨.none_list h' aQ,.none_list h' aQ⟩
   |fix h' q'=>exact⟨.none_list h' aQ,.none_list h' aQ⟩
  |bl c=>
   cases y with
   |non=>exact⟨.bool_none c,.bool_none c⟩
   |bl c'=>exact⟨.bool_bool c c',.bool_bool c c'⟩
   |int c' t'=>exact⟨.bool_int c c' t',.bool_int c c' t'⟩
   |str c' t'=>exact⟨.bool_str c c' t',.bool_str c c' t'⟩
   |tup h' q'=>exact⟨.bool_tuple c h' aQ,.bool_tuple c h' aQ⟩
   |lst h' q'=>exact⟨.bool_list c h' aQ,.bool_list c h' aQ⟩
   |fix h' q'=>exact⟨.bool_list c h' aQ,.bool_list c h' aQ⟩
  |int c t=>
   cases y with
   |non=>exact⟨.int_none c t,.int_none c t⟩
   |bl c'=>exact⟨.int_bool c t c',.int_bool c t c'⟩
   |int c' t'=>exact⟨.int_int c t c' t',.int_int c t c' t'⟩
   |str c' t'=>exact⟨.int_str c t c' t',.int_str c t c' t'⟩
   |tup h' q'=>exact⟨.int_tuple c t h' aQ,.int_tuple c t h' aQ⟩
   |lst h' q'=>exact⟨.int_list c t h' aQ,.int_list c t h' aQ⟩
   |fix h' q'=>exact⟨.int_list c t h' aQ,.int_list c t h' aQ⟩
  |str c t=>
   cases y with
   |non=>exact⟨.str_none c t,.str_none c t⟩
   |bl c'=>exact⟨.str_bool c t c',.str_bool c t c'⟩
   |int c' t'=>exact⟨.str_int c t c' t',.str_int c t c' t'⟩
   |str c' t'=>exact⟨.str_str c t c' t',.str_str c t c' t'⟩
   |tup h' q'=>exact⟨.str_tuple c t h' aQ,.str_tuple c t h' aQ⟩
   |lst h' q'=>exact⟨.str_list c t h' aQ,.str_list c t h' aQ⟩
   |fix h' q'=>exact⟨.str_list c t h' aQ,.str_list c t h' aQ⟩
 |succ n ih=>
  intro d1 d2 u1 u2 A hn x y hu;have aQ:A.units<cLine:=by lia
  have el:∀{l:List D},deps l<=n->∀(j:Nat) d1 d2 u1 u2,l[j]?=some d1->Dv s.heap d1 u1->Dv s.heap d2 u2->SeqAt.EqAt A.in1 s u1 u2 (cM d1 d2):=λhl j d1 d2 u1 u2 e v1 v2=>
   (ih (l6 (nu e) hl) v1 v2 (by rw[in1_units];lia)).1
  cases x with
  |@tup l0 a0 us0 h q=>
   have hn':deps l0<=n:=Bz hn;have x:=Dv.tup h q;cases y with
   |tup h' q'=>have r:=zq h h' q q' aQ (el hn');exact⟨gX x (.tup h' q') r,r⟩
   |lst h' q'=>exact⟨.tuple_list h h' aQ,.tuple_list h h' aQ⟩
   |fix h' q'=>exact⟨.tuple_list h h' aQ,.tuple_list h h' aQ⟩
   |non=>exact⟨.tuple_none h aQ,.tuple_none h aQ⟩
   |bl b=>exact⟨.tuple_bool b h aQ,.tuple_bool b h aQ⟩
   |int b t=>exact⟨.tuple_int b t h aQ,.tuple_int b t h aQ⟩
   |str b t=>exact⟨.tuple_str b t h aQ,.tuple_str b t h aQ⟩
  |@lst l0 a0 us0 h q=>
   have hn':deps l0<=n:=Bz hn;have x:=Dv.lst h q;cases y with
   |tup h' q'=>exact⟨.list_tuple h h' aQ,.list_tuple h h' aQ⟩
   |lst h' q'=>have r:=jL h h' q q' aQ (el hn');exact⟨gX x (.lst h' q') r,r⟩
   |fix h' q'=>have r:=jL h h' q q' aQ (el hn');exact⟨gX x (.fix h' q') r,r⟩
   |non=>exact⟨.list_none h aQ,.list_none h aQ⟩
   |bl b=>exact⟨.list_bool b h aQ,.list_bool b h aQ⟩
   |int b t=>exact⟨.list_int b t h aQ,.list_int b t h aQ⟩
   |str b t=>exact⟨.list_str b t h aQ,.list_str b t h aQ⟩
  |@fix l0 a0 us0 h q=>
   have hn':deps l0<=n:=Bz hn;have x:=Dv.fix h q;cases y with
   |tup h' q'=>exact⟨.list_tuple h h' aQ,.list_tuple h h' aQ⟩
   |lst h' q'=>have r:=jL h h' q q' aQ (el hn');exact⟨gX x (.lst h' q') r,r⟩
   |fix h' q'=>have r:=jL h h' q q' aQ (el hn');exact⟨gX x (.fix h' q') r,r⟩
   |non=>exact⟨.list_none h aQ,.list_none h aQ⟩
   |bl b=>exact⟨.list_bool b h aQ,.list_bool b h aQ⟩
   |int b t=>exact⟨.list_int b t h aQ,.list_int b t h aQ⟩
   |str b t=>exact⟨.list_str b t h aQ,.list_str b t h aQ⟩
  |non=>
   cases y with
   |non=>exact⟨.same _,.none_none⟩
   |bl c'=>exact⟨.none_bool c',.none_bool c'⟩
   |int c' t'=>exact⟨.none_int c' t',.none_int c' t'⟩
   |str c' t'=>exact⟨.none_str c' t',.none_str c' t'⟩
   |tup h' q'=>exact⟨.none_tuple h' aQ,.none_tuple h' aQ⟩
   |lst h' q'=>exact⟨.none_list h' aQ,.none_list h' aQ⟩
   |fix h' q'=>exact⟨.none_list h' aQ,.none_list h' aQ⟩
  |bl c=>
   cases y with
   |non=>exact⟨.bool_none c,.bool_none c⟩
   |bl c'=>exact⟨.bool_bool c c',.bool_bool c c'⟩
   |int c' t'=>exact⟨.bool_int c c' t',.bool_int c c' t'⟩
   |str c' t'=>exact⟨.bool_str c c' t',.bool_str c c' t'⟩
   |tup h' q'=>exact⟨.bool_tuple c h' aQ,.bool_tuple c h' aQ⟩
   |lst h' q'=>exact⟨.bool_list c h' aQ,.bool_list c h' aQ⟩
   |fix h' q'=>exact⟨.bool_list c h' aQ,.bool_list c h' aQ⟩
  |int c t=>
   cases y with
   |non=>exact⟨.int_none c t,.int_none c t⟩
   |bl c'=>exact⟨.int_bool c t c',.int_bool c t c'⟩
   |int c' t'=>exact⟨.int_int c t c' t',.int_int c t c' t'⟩
   |str c' t'=>exact⟨.int_str c t c' t',.int_str c t c' t'⟩
   |tup h' q'=>exact⟨.int_tuple c t h' aQ,.int_tuple c t h' aQ⟩
   |lst h' q'=>exact⟨.int_list c t h' aQ,.int_list c t h' aQ⟩
   |fix h' q'=>exact⟨.int_list c t h' aQ,.int_list c t h' aQ⟩
  |str c t=>
   cases y with
   |non=>exact⟨.str_none c t,.str_none c t⟩
   |bl c'=>exact⟨.str_bool c t c',.str_bool c t c'⟩
   |int c' t'=>exact⟨.str_int c t c' t',.str_int c t c' t'⟩
   |str c' t'=>exact⟨.str_str c t c' t',.str_str c t c' t'⟩
   |tup h' q'=>exact⟨.str_tuple c t h' aQ,.str_tuple c t h' aQ⟩
   |lst h' q'=>exact⟨.str_list c t h' aQ,.str_list c t h' aQ⟩
   |fix h' q'=>exact⟨.str_list c t h' aQ,.str_list c t h' aQ⟩
section
variable{K:Frag}
theorem Pk.int{i:Int}(h:Pk K M H (.int i) v):v=.int i:=by cases h with |of r=>cases r;rfl
theorem Pk.bl(h:Pk K M H (.bl i) v):v=.bl i:=by cases h with |of r=>cases r;rfl
theorem Pk.str(h:Pk K M H (.str i) v):v=.str i:=by cases h with |of r=>cases r;rfl
theorem Pk.non(h:Pk K M H .non v):v=.non:=by cases h with |of r=>cases r;rfl
theorem Pk.tup{l:List D}(h:Pk K M H (.tup l) v):∃a xs,v=.ref a/\TupAt K M H a xs/\aH K M H l xs:=by cases h with |of r=>cases r with |tup h1 h2=>exact⟨_,_,rfl,h1,h2⟩
theorem Pk.fix{l:List D}(h:Pk K M H (.fix l) v):∃a xs,v=.ref a/\ng K M H a xs/\aH K M H l xs:=by cases h with |of r=>cases r with |fix h1 h2=>exact⟨_,_,rfl,h1,h2⟩
end
section
theorem xS{f:Value->Value->Sem Value}{k:Int->Int->Int}{i j:Int}(h:k9 X f (Hr λi j=>.int (k i j))):lK X z f (.int i) (.int j) (.dat (.int (k i j))):=
 ⟨_,h,λg σ As M H v1 v2 Q s p1 p2 kk=>⟨i,j,p1.int,p2.int,kk _ H As M s (aq.refl _ _) (.int _)⟩⟩
theorem rC{f:Value->Value->Sem Value}{C:Int->Int->Prop}{k:Int->Int->Int}{i j:Int}(h:k9 X f (rI C λi j=>.int (k i j)))(hc:C i j):lK X z f (.int i) (.int j) (.dat (.int (k i j))):=
 ⟨_,h,λg σ As M H v1 v2 Q s p1 p2 kk=>⟨i,j,p1.int,p2.int,hc,kk _ H As M s (aq.refl _ _) (.int _)⟩⟩
theorem rD{f:Value->Value->Sem Value}{k:Int->Int->Bool}{i j:Int}(h:k9 X f (Hr λi j=>.bl (k i j))):lK X z f (.int i) (.int j) (.dat (.bl (k i j))):=
 ⟨_,h,λg σ As M H v1 v2 Q s p1 p2 kk=>⟨i,j,p1.int,p2.int,kk _ H As M s (aq.refl _ _) (.bl _)⟩⟩
def Pn(z:Z)(d1 d2:D)(b:Bool):R2:=λx y H Q=>(∃M,Pk z.K M H d1 x/\Pk z.K M H d2 y)/\Q (.bl b) H
theorem Vx(hK:z.K=X.K)(p1:jz d1=true)(p2:jz d2=true)(hd:X.A.units+dep d1<cLine):lK X z (compareOp .Eq) d1 d2 (.dat (.bl (cM d1 d2))):=by
 refine⟨Pn z d1 d2 (cM d1 d2),?_,λg σ As M H v1 v2 Q s q1 q2 kk=>⟨⟨M,q1,q2⟩,kk _ H As M s (aq.refl _ _) (.bl _)⟩⟩
 intro ah s σ H x y v u Q I rx ry h;obtain⟨⟨M,q1,q2⟩,q⟩:=h;rw[hK]at q1 q2;exact (CJ (dep d1) (d5 _) (q1.dv I rx p1) (q2.dv I ry p2) hd).2 X.prog X.w X.xe _ ⟨.bl _,H,I,rfl,q⟩
section
theorem jM(hl:s.heap.IsList l us.toArray)(hb:s.heap.IsList b ws.toArray)(q:lV s.heap ls us)(q':lV s.heap ms ws)(hu:A.units<cLine)
  (he:∀(j:Nat) d1 d2 u1 u2,ls[j]?=some d1->Dv s.heap d1 u1->Dv s.heap d2 u2->SeqAt.EqAt A.in1 s u1 u2 (cM d1 d2)):SeqAt.RcNeAt A s (.ref l) (.ref b) (!d8 ls ms):=by
 have h1:=q.length;have h2:=q'.length;by_cases h:ls.length=ms.length
 .
  rw[<- nk ls ms h];have e:us.toArray.size=ls.length:=by rw[dC,h1]
  rw[<- e];refine SeqAt.RcNeAt.lists hl hb (by rw[dC,dC];lia) hu λj g1 g2=>?_
  rw[dC]at g1 g2;obtain⟨d1,e1,v1⟩:=q.get (j:=j) (u:=us[j]) (by simp[g1])
  obtain⟨d2,e2,v2⟩:=q'.get (j:=j) (u:=ws[j]) (by simp[g2])
  have:=he j d1 d2 us[j] ws[j] e1 v1 v2;simpa [Mr,e1,e2]using this
 . rw[nq ls ms h];refine SeqAt.RcNeAt.lists_lengths hl hb ?_ hu;rw[dC,dC];simp only[bne_iff_ne];lia
theorem zu(hl:IsTup s.heap l us.toArray)(hb:IsTup s.heap b ws.toArray)(q:lV s.heap ls us)(q':lV s.heap ms ws)(hu:A.units<cLine)
  (he:∀(j:Nat) d1 d2 u1 u2,ls[j]?=some d1->Dv s.heap d1 u1->Dv s.heap d2 u2->SeqAt.EqAt A.in1 s u1 u2 (cM d1 d2)):SeqAt.RcNeAt A s (.ref l) (.ref b) (!d8 ls ms):=by
 have h1:=q.length;have h2:=q'.length;have e:us.toArray.size=ls.length:=by rw[dC,h1]
 have e':ws.toArray.size=ms.length:=by rw[dC,h2]
 rw[<- tM,<- e,<- e'];refine SeqAt.RcNeAt.tuples hl hb hu λj g1 g2=>?_
 rw[dC]at g1 g2;obtain⟨d1,e1,v1⟩:=q.get (j:=j) (u:=us[j]) (by simp[g1])
 obtain⟨d2,e2,v2⟩:=q'.get (j:=j) (u:=ws[j]) (by simp[g2])
 have:=he j d1 d2 us[j] ws[j] e1 v1 v2;simpa [Mr,e1,e2]using this
end
theorem Vy(x:Dv s.heap d1 u1)(y:Dv s.heap d2 u2)(hu:A.units+dep d1<cLine):SeqAt.RcNeAt A s u1 u2 (!cM d1 d2):=by
 have aQ:A.units<cLine:=by lia
 have el:∀{l:List D},deps l+1<=dep d1->∀(j:Nat) d1 d2 u1 u2,l[j]?=some d1->Dv s.heap d1 u1->Dv s.heap d2 u2->SeqAt.EqAt A.in1 s u1 u2 (cM d1 d2):=λhl j e1 e2 u1 u2 e v1 v2=>
  (CJ (dep e1) (d5 _) v1 v2 (by rw[in1_units];have:=nu e;lia)).1
 cases x with
 |tup h q=>
  cases y with
  |tup h' q'=>exact zu h h' q q' aQ (el (by simp[dep]))
  |lst h' q'=>exact .tuple_list h h' aQ
  |fix h' q'=>exact .tuple_list h h' aQ
  |non=>exact .tuple_none h aQ
  |bl b=>exact .tuple_bool b h aQ
  |int b t=>exact .tuple_int b t h aQ
  |str b t=>exact .tuple_str b t h aQ
 |lst h q=>
  cases y with
  |tup h' q'=>exact .list_tuple h h' aQ
  |lst h' q'=>exact jM h h' q q' aQ (el (by simp[dep]))
  |fix h' q'=>exact jM h h' q q' aQ (el (by simp[dep]))
  |non=>exact .list_none h aQ
  |bl b=>exact .list_bool b h aQ
  |int b t=>exact .list_int b t h aQ
  |str b t=>exact .list_str b t h aQ
 |fix h q=>
  cases y with
  |tup h' q'=>exact .list_tuple h h' aQ
  |lst h' q'=>exact jM h h' q q' aQ (el (by simp[dep]))
  |fix h' q'=>exact jM h h' q q' aQ (el (by simp[dep]))
  |non=>exact .list_none h aQ
  |bl b=>exact .list_bool b h aQ
  |int b t=>exact .list_int b t h aQ
  |str b t=>exact .list_str b t h aQ
 |non=>
  cases y with
  |non=>exact .none_none
  |bl c'=>exact .none_bool c'
  |int c' t'=>exact .none_int c' t'
  |str c' t'=>exact .none_str c' t'
  |tup h' q'=>exact .none_tuple h' aQ
  |lst h' q'=>exact .none_list h' aQ
  |fix h' q'=>exact .none_list h' aQ
 |bl c=>
  cases y with
  |non=>exact .bool_none c
  |bl c'=>exact .bool_bool c c'
  |int c' t'=>exact .bool_int c c' t'
  |str c' t'=>exact .bool_str c c' t'
  |tup h' q'=>exact .bool_tuple c h' aQ
  |lst h' q'=>exact .bool_list c h' aQ
  |fix h' q'=>exact .bool_list c h' aQ
 |int c t=>
  cases y with
  |non=>exact .int_none c t
  |bl c'=>exact .int_bool c t c'
  |int c' t'=>exact .int_int c t c' t'
  |str c' t'=>exact .int_str c t c' t'
  |tup h' q'=>exact .int_tuple c t h' aQ
  |lst h' q'=>exact .int_list c t h' aQ
  |fix h' q'=>exact .int_list c t h' aQ
 |str c t=>
  cases y with
  |non=>exact .str_none c t
  |bl c'=>exact .str_bool c t c'
  |int c' t'=>exact .str_int c t c' t'
  |str c' t'=>exact .str_str c t c' t'
  |tup h' q'=>exact .str_tuple c t h' aQ
  |lst h' q'=>exact .str_list c t h' aQ
  |fix h' q'=>exact .str_list c t h' aQ
theorem Vz(hK:z.K=X.K)(p1:jz d1=true)(p2:jz d2=true)(hd:X.A.units+dep d1<cLine):lK X z (compareOp .NotEq) d1 d2 (.dat (.bl (!cM d1 d2))):=by
 refine⟨Pn z d1 d2 (!cM d1 d2),?_,λg σ As M H v1 v2 Q s q1 q2 kk=>⟨⟨M,q1,q2⟩,kk _ H As M s (aq.refl _ _) (.bl _)⟩⟩
 intro ah s σ H x y v u Q I rx ry h;obtain⟨⟨M,q1,q2⟩,q⟩:=h;rw[hK]at q1 q2;exact Vy (q1.dv I rx p1) (q2.dv I ry p2) hd X.prog X.w X.xe _ ⟨.bl _,H,I,rfl,q⟩
theorem CK(q:Dv h d u):∀d' x,Dv h d' u->cM d x=cM d' x:=by
 have two:∀{l l':List D} (x:D),(∀m,d8 l m=d8 l' m)->cM (.lst l) x=cM (.lst l') x/\cM (.fix l) x=cM (.lst l') x/\cM (.lst l) x=cM (.fix l') x/\cM (.fix l) x=cM (.fix l') x:=λx k=>by
  cases x with
  |lst m=>exact⟨k m,k m,k m,k m⟩
  |fix m=>exact⟨k m,k m,k m,k m⟩
  |_=>exact⟨rfl,rfl,rfl,rfl⟩
 refine Dv.rec (motive_1:=λd u _=>∀d' x,Dv h d' u->cM d x=cM d' x) (motive_2:=λl us _=>∀l' m,lV h l' us->d8 l m=d8 l' m) ?_ ?_ ?_ ?_ ?_ ?_ ?_ ?_ ?_ q
 . intro d' x q;cases q;rfl
 . intro b d' x q;cases q;rfl
 . intro i t d' x q;cases q;rfl
 . intro y t d' x q;cases q;rfl
 .
  intro l a us k _ ih d' x q;cases q with
  |tup y q'=>
   cases qa k y;cases x with
   |tup m=>exact ih _ m q'
   |_=>rfl
  |lst y _=>exact (dN k y).elim
  |fix y _=>exact (dN k y).elim
 .
  intro l a us k _ ih d' x q;cases q with
  |tup y _=>exact (dN y k).elim
  |lst y q'=>cases bS k y;exact (two x λm=>ih _ m q').1
  |fix y q'=>cases bS k y;exact (two x λm=>ih _ m q').2.2.1
 .
  intro l a us k _ ih d' x q;cases q with
  |tup y _=>exact (dN y k).elim
  |lst y q'=>cases bS k y;exact (two x λm=>ih _ m q').2.1
  |fix y q'=>cases bS k y;exact (two x λm=>ih _ m q').2.2.2
 . intro l' m q;cases q;rfl
 .
  intro d ds u us _ _ i1 i2 l' m q;cases q with
  |@cons d' l' _ _ b q'=>cases m with
   |nil=>rfl
   |cons y m=>show (cM d y&&d8 ds m)=(cM d' y&&d8 l' m);rw[i1 _ y b,i2 _ m q']
theorem Jb(x:D)(q:Dv h d u)(q':Dv h d' u):cM d x=cM d' x:=CK q d' x q'
open Classical in
def zz(h:Heap)(x:D)(u:Value):Bool:=decide (∃d,Dv h d u/\cM d x=true)
open Classical in
theorem CN(q:Dv h d u):zz h x u=cM d x:=by
 unfold zz;cases e:cM d x with
 |true=>exact u8 ⟨d,q,e⟩
 |false=>refine nV ?_;rintro⟨d',q',e'⟩;rw[Jb x q' q,e]at e';cases e'
theorem rE(q:lV h l us):us.any (zz h x)=l.any λd=>cM d x:=by
 induction l generalizing us with
 |nil=>cases q;rfl
 |cons d l ih=>cases q with |cons a b=>rw[List.any_cons,List.any_cons,CN a,ih b]
def ZK(z:Z)(d1 d2:D)(b:Bool):R2:=Pn z d1 d2 b
theorem vM{A:Around}{s:Shared}{x:D}{u:Value}{l:List D}{us:List Value}(q:lV s.heap l us)(hx:Dv s.heap x u)(hu:A.units+deps l+1<cLine):∀y,y∈us.toArray->SeqAt.EqAt A.in1 s y u (zz s.heap x y):=by
 intro y hy;have hy':y∈us:=by simpa using hy
 obtain⟨j,hj⟩:=List.getElem?_of_mem hy';obtain⟨d,e,qd⟩:=q.get hj;rw[CN qd];have:=nu e;exact (CJ (dep d) (d5 _) qd hx (by rw[in1_units];lia)).1
noncomputable def dF:D->Option (List D)
 |.lst l=>some l
 |.tup l=>some l
 |.fix l=>some l
 |_=>none
theorem VB(hK:z.K=X.K)(hs:dF d2=some l)(p1:jz d1=true)(p2:lN l=true)(hd:X.A.units+deps l+1<cLine):lK X z (compareOp .In) d1 d2 (.dat (.bl (l.any λd=>cM d d1))):=by
 refine⟨ZK z d1 d2 (l.any λd=>cM d d1),?_,λg σ As M H v1 v2 Q s q1 q2 kk=>⟨⟨M,q1,q2⟩,kk _ H As M s (aq.refl _ _) (.bl _)⟩⟩
 intro ah s σ H x y v u Q I rx ry h;obtain⟨⟨M,q1,q2⟩,q⟩:=h;rw[hK]at q1 q2;have hx:=q1.dv I rx p1;cases d2 with
 |lst m=>
  cases hs;obtain⟨a,xs,rfl,ha,rr⟩:=q2.list;cases ry;obtain⟨its,rv,pl,hz⟩:=I.list (bX.of ha);have sZ:=rr.dv I rv p2;refine SeqAt.in_listAt (zz s.heap d1) pl.isList (vM sZ hx hd) ⟨.bl _,H,I,rfl,?_⟩;rw[show its.toArray.any (zz s.heap d1)=its.any (zz s.heap d1)by simp,rE sZ]
  exact q
 |fix m=>
  cases hs;obtain⟨a,xs,rfl,ha,rr⟩:=q2.fix;cases ry;obtain⟨its,rv,pl,hz⟩:=I.list ha.sq;have sZ:=rr.dv I rv p2;refine SeqAt.in_listAt (zz s.heap d1) pl.isList (vM sZ hx hd) ⟨.bl _,H,I,rfl,?_⟩;rw[show its.toArray.any (zz s.heap d1)=its.any (zz s.heap d1)by simp,rE sZ]
  exact q
 |tup m=>
  cases hs;obtain⟨a,xs,rfl,ha,rr⟩:=q2.tup;cases ry;obtain⟨its,rv,pl,hz⟩:=I.tuple ha.sq;have sZ:=rr.dv I rv p2;refine SeqAt.in_tupleAt (zz s.heap d1) pl (vM sZ hx hd) ⟨.bl _,H,I,rfl,?_⟩;rw[show its.toArray.any (zz s.heap d1)=its.any (zz s.heap d1)by simp,rE sZ]
  exact q
 |_=>cases hs
theorem Pp(h:l.length+m.length<=16777216):lK X z (binaryOp .Add) (.lst l) (.lst m) (.new (l++m)):=by
 refine⟨_,Om,λg σ As M H v1 v2 Q s q1 q2 kk=>?_⟩
 obtain⟨a,xs,rfl,ha,ra⟩:=q1.list;obtain⟨b,ys,rfl,hb,rb⟩:=q2.list;refine⟨a,b,xs,ys,rfl,rfl,ha,hb,by rw[<- ra.length,<- rb.length];exact nj h,λp hp=>?_⟩
 exact kk _ _ As (p::M) (s.aN hp) (aq.aN hp) ⟨p,_,rfl,dA,λhA=>s.fresh hp (s.sub p hA),s.bR hp,az,(ra.append rb).stay (aq.aN hp)⟩
theorem Pq(h1 : -(2 ^ 63)<=k)(h2:k<2 ^ 63)(h:l.length * k.toNat<=16777216):lK X z (binaryOp .Mult) (.lst l) (.int k) (.new (List.replicate k.toNat l).flatten):=by
 refine⟨_,Oo,λg σ As M H v1 v2 Q s q1 q2 kk=>?_⟩
 obtain⟨a,xs,rfl,ha,ra⟩:=q1.list;have rr:∀n,aH z.K M H (List.replicate n l).flatten (List.replicate n xs).flatten:=λn=>by
  induction n with
  |zero=>simp;exact .nil
  |succ n ih=>rw[l9,l9,sK,sK];exact ra.append ih
 refine⟨a,k,xs,rfl,q2.int,ha,h1,h2,by rw[<- ra.length];exact nj h,λp hp=>?_⟩
 exact kk _ _ As (p::M) (s.aN hp) (aq.aN hp) ⟨p,_,rfl,dA,λhA=>s.fresh hp (s.sub p hA),s.bR hp,az,(rr _).stay (aq.aN hp)⟩
def Pu(K:Frag):R2:=λx y H Q=>∃a b xs ys,x=.ref a/\y=.ref b/\gi K H a xs/\gi K H b ys/\xs.length+ys.length<=sizeLine/\
 (xs=[]->Q (.ref b) H)/\(xs≠[]->ys=[]->Q (.ref a) H)/\(xs≠[]->ys≠[]->∀p,H p=none->Q (.ref p) (upd H p (.tup (xs++ys))))
theorem CP:k9 X (binaryOp .Add) (Pu X.K):=by
 intro ah s σ H x y v u Q I rx ry h;obtain⟨a,b,xs,ys,rfl,rfl,ha,hb,hz,q0,q1,q2⟩:=h;by_cases hx:xs=[]
 .
  subst hx;cases rx;cases ry;obtain⟨its,r1,p1,_⟩:=I.tuple ha;obtain⟨jY,r2,p2,_⟩:=I.tuple hb;cases r1;obtain⟨⟨cls,dd,data,sl⟩,ho,hc,n,hd⟩:=id p1;obtain⟨⟨Vj,dd2,data2,sl2⟩,ho2,hc2,n2,hd2⟩:=id p2;simp only at hc hd hc2 hd2;subst hc hd hc2 hd2;exact concat_meets ⟨_,ho,rfl⟩ ⟨_,ho2,rfl⟩ noFill_tuple_add seq_tuple_add Bi AX (AR _ _)
   (tuple_addW0 a b #[] jY.toArray n n2 dd dd2 sl sl2 ⋯) ⟨ho,ho2,⟨.ref b,H,I,rfl,q0 rfl⟩⟩
 . exact Ii ah s σ H (.ref a) (.ref b) v u Q I rx ry ⟨a,b,xs,ys,rfl,rfl,ha,hb,hx,hz,q1 hx,q2 hx⟩
theorem Jc(hK:z.K=X.K)(h:l.length+m.length<=16777216):lK X z (binaryOp .Add) (.tup l) (.tup m) (.dat (.tup (l++m))):=by
 refine⟨_,CP,λg σ As M H v1 v2 Q s q1 q2 kk=>?_⟩
 obtain⟨a,xs,rfl,ha,ra⟩:=q1.tup;obtain⟨b,ys,rfl,hb,rb⟩:=q2.tup;have la:=ra.length;have lb:=rb.length;refine⟨a,b,xs,ys,rfl,rfl,hK▸ha.sq,hK▸hb.sq,by rw[<- la,<- lb];exact nj h,λe=>?_,λe1 e2=>?_,λe1 e2 p hp=>?_⟩
 .
  subst e;cases l with
  |nil=>exact kk _ H As M s (aq.refl _ _) (.tup hb rb)
  |cons _ _=>simp at la
 .
  subst e2;cases m with
  |nil=>rw[l4]at kk;exact kk _ H As M s (aq.refl _ _) (.tup ha ra)
  |cons _ _=>simp at lb
 . exact kk _ _ As M (s.laid hp) (aq.laid hp) (.tup (.inl ⟨s.fresh hp,.inl az⟩) ((ra.append rb).stay (aq.laid hp)))
theorem nB{K:Frag}{M:List Addr}{H:Hp}{l:List D}{xs:List V}{i:Int}{d:D}(r:aH K M H l xs)(h:fQ l i=some d):∃v,fQ xs i=some v/\Rep K M H d v:=by
 unfold fQ at h ⊢
 rw[<- r.length];cases e:oZ l.length i with
 |none=>rw[e]at h;cases h
 |some j=>rw[e]at h;have h':l[j]?=some d:=h;obtain⟨v,h1,h2⟩:=r.get h';exact⟨v,h1,h2⟩
theorem Pw{l:List D}{i:Int}{d:D}(hK:z.K=X.K)(h:fQ l i=some d):Vt X z (.lst l) (.int i) (.dat d):=by
 refine⟨_,qZ,λg σ As M H v1 v2 Q s q1 q2 kk=>?_⟩
 obtain⟨a,xs,rfl,ha,ra⟩:=q1.list;obtain⟨v,e,r⟩:=nB ra h;exact⟨a,xs,i,v,rfl,q2.int,bX.of ha,e,kk _ H As M s (aq.refl _ _) r⟩
theorem Px{l:List D}{i:Int}{d:D}(hK:z.K=X.K)(h:fQ l i=some d):Vt X z (.fix l) (.int i) (.dat d):=by
 refine⟨_,qZ,λg σ As M H v1 v2 Q s q1 q2 kk=>?_⟩
 obtain⟨a,xs,rfl,ha,ra⟩:=q1.fix;obtain⟨v,e,r⟩:=nB ra h;exact⟨a,xs,i,v,rfl,q2.int,hK▸ha.sq,e,kk _ H As M s (aq.refl _ _) r⟩
theorem Jd{l:List D}{i:Int}{d:D}(hK:z.K=X.K)(h:fQ l i=some d):Vt X z (.tup l) (.int i) (.dat d):=by
 refine⟨_,Og,λg σ As M H v1 v2 Q s q1 q2 kk=>?_⟩
 obtain⟨a,xs,rfl,ha,ra⟩:=q1.tup;obtain⟨v,e,r⟩:=nB ra h;exact⟨a,xs,i,v,rfl,q2.int,hK▸ha.sq,e,kk _ H As M s (aq.refl _ _) r⟩
noncomputable def bL:List D->Option (List Int)
 | []=>some []
 |.int i::l=>match bL l with |some ns=>some (i::ns) |none=>none
 |_::_=>none
theorem bz{K:Frag}{M:List Addr}{H:Hp}{l:List D}{xs:List V}{ns:List Int}(q:aH K M H l xs)(e:bL l=some ns):xs=ns.map V.int:=by
 induction l generalizing xs ns with
 |nil=>cases q;cases e;rfl
 |cons d l ih=>cases q with |cons r q=>cases d with
  |int i=>
   have e:(match bL l with |some ns=>some (i::ns) |none=>none)=some ns:=e
   cases e2:bL l with
   |none=>rw[e2]at e;cases e
   |some ns=>rw[e2]at e;cases e;cases r;rw[List.map_cons,ih q e2]
  |_=>cases e
theorem Py{l m:List D}{ns ms:List Int}(hK:z.K=X.K)(hu:X.A.units<cLine)(h1:bL l=some ns)(h2:bL m=some ms):lK X z (compareOp .Lt) (.tup l) (.tup m) (.dat (.bl (HT.lexLt ns ms))):=by
 refine⟨_,Oe hu,λg σ As M H v1 v2 Q s q1 q2 kk=>?_⟩
 obtain⟨a,xs,rfl,ha,ra⟩:=q1.tup;obtain⟨b,ys,rfl,hb,rb⟩:=q2.tup;have e1:=bz ra h1;have e2:=bz rb h2;subst e1 e2;exact⟨a,b,ns,ms,rfl,rfl,hK▸ha.sq,hK▸hb.sq,kk _ H As M s (aq.refl _ _) (.bl _)⟩
theorem Pz:UnD X z (unaryOp .USub) (.int i) (.dat (.int (-i))):=⟨_,BX,λg σ As M H v Q s p k=>⟨i,p.int,k _ H As M s (aq.refl _ _) (.int _)⟩⟩
end
section
theorem IW.one{K:Frag}{M:List Addr}{H:Hp}{d:D}{vs:List V}(h:IW K M H [d] vs):∃v,vs=[v]/\Pk K M H d v:=by cases h with |cons p q=>cases q;exact⟨_,rfl,p⟩
theorem IW.two{K:Frag}{M:List Addr}{H:Hp}{d e:D}{vs:List V}(h:IW K M H [d,e] vs):∃v w,vs=[v,w]/\Pk K M H d v/\Pk K M H e w:=by cases h with |cons p q=>cases q with |cons p' q'=>cases q';exact⟨_,_,rfl,p,p'⟩
noncomputable def VD:D->Option Nat
 |.lst l=>some l.length
 |.tup l=>some l.length
 |.fix l=>some l.length
 |_=>none
theorem PB{d:D}{n:Nat}(hK:z.K=X.K)(h:VD d=some n):CallD X z (.builtin "len") [d] (.dat (.int n)):=by
 refine⟨_,Ca,λg σ As M H vs Q s p k=>?_⟩
 obtain⟨v,rfl,pv⟩:=p.one;refine⟨v,n,rfl,?_,k _ H As M s (aq.refl _ _) (.int _)⟩;cases d with
 |lst l=>cases h;obtain⟨a,xs,rfl,ha,r⟩:=pv.list;exact .inl ⟨xs,bX.of ha,r.length⟩
 |fix l=>cases h;obtain⟨a,xs,rfl,ha,r⟩:=pv.fix;exact .inl ⟨xs,hK▸ha.sq,r.length⟩
 |tup l=>cases h;obtain⟨a,xs,rfl,ha,r⟩:=pv.tup;exact .inr ⟨xs,hK▸ha.sq,r.length⟩
 |_=>cases h
theorem Je{d:D}{l:List D}(hK:z.K=X.K)(h:dF d=some l):CallD X z (.type "list") [d] (.new l):=by
 refine⟨_,rq,λg σ As M H vs Q s p k=>?_⟩
 obtain⟨v,rfl,pv⟩:=p.one;have fin:∀xs,aH z.K M H l xs->∀p,H p=none->Q (.ref p) (upd H p (.lst xs)):=λxs r p hp=>
  k _ _ As (p::M) (s.aN hp) (aq.aN hp) ⟨p,xs,rfl,dA,λhA=>s.fresh hp (s.sub p hA),s.bR hp,az,r.stay (aq.aN hp)⟩
 cases d with
 |lst m=>cases h;obtain⟨a,xs,rfl,ha,r⟩:=pv.list;exact⟨a,xs,rfl,.inl (bX.of ha),fin xs r⟩
 |fix m=>cases h;obtain⟨a,xs,rfl,ha,r⟩:=pv.fix;exact⟨a,xs,rfl,.inl (hK▸ha.sq),fin xs r⟩
 |tup m=>cases h;obtain⟨a,xs,rfl,ha,r⟩:=pv.tup;exact⟨a,xs,rfl,.inr (hK▸ha.sq),fin xs r⟩
 |_=>cases h
theorem CQ{d:D}{l:List D}(hK:z.K=X.K)(h:dF d=some l):CallD X z (.type "tuple") [d] (.dat (.tup l)):=by
 refine⟨_,o8,λg σ As M H vs Q s p k=>?_⟩
 obtain⟨v,rfl,pv⟩:=p.one;have fin:∀xs,aH z.K M H l xs->∀p,H p=none->Q (.ref p) (upd H p (.tup xs)):=λxs r p hp=>
  k _ _ As M (s.laid hp) (aq.laid hp) (.tup (.inl ⟨s.fresh hp,.inl az⟩) (r.stay (aq.laid hp)))
 cases d with
 |lst m=>cases h;obtain⟨a,xs,rfl,ha,r⟩:=pv.list;exact⟨a,xs,rfl,.inl ⟨bX.of ha,fin xs r⟩⟩
 |fix m=>cases h;obtain⟨a,xs,rfl,ha,r⟩:=pv.fix;exact⟨a,xs,rfl,.inl ⟨hK▸ha.sq,fin xs r⟩⟩
 |tup m=>cases h;obtain⟨a,xs,rfl,ha,r⟩:=pv.tup;exact⟨a,xs,rfl,.inr ⟨hK▸ha.sq,k _ H As M s (aq.refl _ _) (.tup ha r)⟩⟩
 |_=>cases h
theorem PJ{i j:Int}(hc:X.calm=true):CallD X z (.builtin "max") [.int i,.int j] (.dat (.int (if j > i then j else i))):=by
 refine⟨_,za hc,λg σ As M H vs Q s p k=>?_⟩
 obtain⟨v,w,rfl,p1,p2⟩:=p.two;exact⟨i,j,by rw[p1.int,p2.int],k _ H As M s (aq.refl _ _) (.int _)⟩
theorem PK{i j:Int}(hc:X.calm=true):CallD X z (.builtin "min") [.int i,.int j] (.dat (.int (if j<i then j else i))):=by
 refine⟨_,zb hc,λg σ As M H vs Q s p k=>?_⟩
 obtain⟨v,w,rfl,p1,p2⟩:=p.two;exact⟨i,j,by rw[p1.int,p2.int],k _ H As M s (aq.refl _ _) (.int _)⟩
end
section
theorem nD(hc:X.calm=true):eV X (.builtin "all") (λxs H Q=>∃(p:Addr) (bs:List Bool),xs=[.ref p]/\bX X.K H p (bs.map V.bl)/\Q (.bl (bs.all id)) H):=by
 intro ah s σ H xs us Q I r h;obtain⟨p,bs,rfl,hp,q⟩:=h;obtain⟨u,rfl,rx⟩:=vals1 r;cases rx;obtain⟨its,rv,pl,hz⟩:=I.list hp;have yU:p<s⁻¹:=by obtain⟨_,e,_⟩:=pl.isList;exact eJ e
 have aJ:its.length=bs.length:=by rw[<- rv.length,eR]
 have up:∀b o,s.heap.get? b=some o->(s.heap.push { cls:=.type "list_iterator",data:=.fields #[.ref p,.int 0 0]}).get? b=some o:=λb o e=>bP _ e
 refine call_all_walk (wpAny_pyIter_list pl.isList ?_);refine⟨s⁻¹,_,_,_,_,_,λi=>bs.getD i true,rfl,Walks.list (A:=X.A.in1) (show X.A.in1.handled=none from I.ok.hd hc) s⁻¹ p (i5 yU) its.toArray,⟨⟨_,eD _ rfl,rfl,rfl⟩,pl.isList.push _⟩,?_,λh' tk hk=>?_⟩
 .
  intro i v s' Q' E' hv hq;have hv':its[i]?=some v:=by simpa using hv
  have hi:i<bs.length:=by rw[<- aJ];exact (dE.mp hv').1
  obtain⟨w,e1,e2⟩:=rv.get (i:=i) (x:=V.bl bs[i]) (by simp[hi])
  rw[hv']at e1;cases e1;cases e2;refine nE ?_;have:bs.getD i true=bs[i]:=by simp[List.getD,hi]
  rw[<- this];exact hq
 .
  have I1:L2.Inv X ah σ H { s with heap:=h',toks:=tk}:=I.kept λb o e=>hk b o (λhm=>by
   have:b=s⁻¹:=by simpa using hm
   exact absurd (eJ e) (by rw[this];exact o6 _)) (up b o e)
  refine⟨.bl (bs.all id),H,I1,?_,q⟩;have e:(List.range its.toArray.size).all (λi=>bs.getD i true)=bs.all id:=by
   rw[dC,aJ];rw[Bool.eq_iff_iff];simp only[mP,tP,id];constructor
   . intro h b hb;obtain⟨j,hj⟩:=List.getElem?_of_mem hb;have hj':=(dE.mp hj).1;have:=h j hj';simpa [List.getD,hj]using this
   . intro h i hi;have:=h bs[i] (List.getElem_mem hi);simpa [List.getD,hi]using this
  rw[e];rfl
noncomputable def tN:List D->Option (List Bool)
 | []=>some []
 |.bl b::l=>match tN l with |some bs=>some (b::bs) |none=>none
 |_::_=>none
theorem CT{K:Frag}{M:List Addr}{H:Hp}{l:List D}{xs:List V}{ns:List Bool}(q:aH K M H l xs)(e:tN l=some ns):xs=ns.map V.bl:=by
 induction l generalizing xs ns with
 |nil=>cases q;cases e;rfl
 |cons d l ih=>cases q with |cons r q=>cases d with
  |bl i=>
   have e:(match tN l with |some ns=>some (i::ns) |none=>none)=some ns:=e
   cases e2:tN l with
   |none=>rw[e2]at e;cases e
   |some ns=>rw[e2]at e;cases e;cases r;rw[List.map_cons,ih q e2]
  |_=>cases e
theorem PL{l:List D}{bs:List Bool}(hc:X.calm=true)(h:tN l=some bs):CallD X z (.builtin "all") [.lst l] (.dat (.bl (bs.all id))):=by
 refine⟨_,nD hc,λg σ As M H vs Q s p k=>?_⟩
 obtain⟨v,rfl,pv⟩:=p.one;obtain⟨a,xs,rfl,ha,r⟩:=pv.list;have e:=CT r h;subst e;exact⟨a,bs,rfl,bX.of ha,k _ H As M s (aq.refl _ _) (.bl _)⟩
end
noncomputable def nF:D->String
 |.non=> "NoneType" |.bl _=> "bool" |.int _=> "int" |.str _=> "str" |.tup _=> "tuple" |.lst _=> "list" |.fix _=> "list" |.emp=> "dict" |.lq _=> ""
def Bh:D->Value
 |.lq C=>.ref C
 |d=>.type (nF d)
theorem zA{M:Model}{A:Around}{E:Value->Shared->Prop}{K:Frag}{x C:Addr}{ox:Obj}{nv:Value}{Q:Unit->Shared->Prop}{s:Shared}(X:K.In s.heap)(I:PySem.W.InstAt s.heap x ox C none)(hb:PySem.W.mroIn K C (.type "BaseException")=some true)(hq:Q () s) :
  wpAny M A (checkBuiltinCall "BaseException.__getattribute__" ⟨[.ref x,nv],[]⟩) Q E s:=by
 have kd:builtinKind "BaseException.__getattribute__"=some .slot:=by decide +kernel
 have sd:splitId "BaseException.__getattribute__"=some ("BaseException", "__getattribute__"):=by decide +kernel
 have ha:=F.args_bexc_ga (.ref x) nv;obtain⟨hv,ge,dr,tk,o'⟩:=s;have l0:=I.type (M:=M);have l1:=PySem.W.looks_mroIn (M:=M) X hb;simp only[checkBuiltinCall,kd,sd];unfold isInstance;refine aS (aS (l0.at (l1.at ?_)))
 repeat (any_goals (first |assumption |wp_step))
theorem CV{prog:Program}{w:World}{A:Around}{E:Value->Shared->Prop}{K:Frag}{x C:Addr}{ox:Obj}{name:Str}{g a:Value}{Q:Option Value->Shared->Prop}{s:Shared}(X:K.In s.heap)(I:PySem.W.InstAt s.heap x ox C none)
  (hga:PySem.W.findIn K (.ref C) "__getattribute__"=some (some (.builtin "BaseException.__getattribute__"))) (hk:PySem.W.findIn K (.ref C) "__getattr__"=some none) (hb:PySem.W.mroIn K C (.type "BaseException")=some true) (hf:PySem.W.findObj K C none name=some (.bind g a))
  (h:wpAny (model prog w) A.in1 (call g [a,.ref x,.ref C]) (λv s'=>wpAny (model prog w) A (handedOut v) (λv s''=>Q (some v) s'') (λ_ _=>False) s') (λ_ _=>False) { s with toks:=s.toks+1}) :
  wpAny (model prog w) A (getAttr? (.ref x) name) Q E s:=by
 obtain⟨hv,ge,dr,tk,o'⟩:=s;have l0:=I.type (M:=model prog w);have l1:=PySem.W.looks_findIn (M:=model prog w) X hga;have l2:=PySem.W.looks_findIn (M:=model prog w) X hk;have l3:=PySem.W.looks_find (M:=model prog w) X I hf;have f3:=F.excAttr_ValueError.ga.bind (.ref x);unfold getAttr? getAttrBy? getAttrBy;refine aS (wpAny_mkText (aS (wpAny_attempt (mB (aS (l0.at (aS (l1.at ?_))))))));show wpAny _ _ (getAttrByItsOwn _ _ _ _ _ _) _ _ _;unfold getAttrByItsOwn;refine aS (l2.at (aS (wpAny_attempt (mB ?_))));show wpAny _ _ (boundAndCalled _ _ _) _ _ _;unfold boundAndCalled;rw[f3];refine aS (dL (CD (codeAny_call_builtin F.excAttr_ValueError.ga.plain F.entry_bexc_ga (zA X I hb ?_))));refine aS (dL (aS (dL (aS (l0.at (aS (l3.at ?_)))))));show wpAny _ _ (Builtin.ObjectAttr.bindTo _ _ _ _) _ _ _;show wpAny _ _ (holding [a] (call g [a,.ref x,.ref C]) >>= ret) _ _ _;refine aS (mB (lS h (λv s' z=>dL ?_) λ_ _ z=>z.elim))
 exact lS z (λv s'' hv=>dL hv) (λ_ _ z=>z.elim)
theorem j8{K:Frag}{C:Addr}(k:Ht K C):∃c d cd sl,K.lookup C=some ⟨c,d,.cls cd,sl⟩/\PySem.W.clsIn K C=some cd:=by
 obtain⟨cd,hc,_⟩:=PySem.W.any_some k.dct;have hc':=hc;unfold PySem.W.clsIn at hc;split at hc
 . rename_i c d cd' sl ho;cases hc;exact⟨c,d,cd,sl,ho,hc'⟩
 . cases hc
theorem tQ{K:Frag}{x C:Addr}(k:Ht K C):PySem.W.KitX K (.ref x) (.ref C) (λh=>∃ox,PySem.W.InstAt h x ox C none) where
 ty:=λ_ _ _ ⟨_,I⟩=>I.type
 it:=λ_ _ X _=>by
  obtain⟨c,d,cd,sl,ho,_⟩:=j8 k;intro A' Q' E' s' kp q;unfold isType loadHead;refine aS ?_;refine wpAny_loadPart (kp _ _ (X _ _ ho)) ?_;exact dL q
 ne:=λh tp dd its n sl X htp=>by
  obtain⟨c,d,cd,XS,ho,_⟩:=j8 k;cases q:(Value.ref C==Value.ref tp)with
  |false=>rfl
  |true=>have e:C=tp:=Value.ref.inj (beq_iff_eq.mp q);subst e;have y:=(X _ _ ho).symm.trans htp;cases y
 ca:=λ{prog w A E Q s} X ⟨ox,I⟩ h=>by
  obtain⟨_,_,cd,_,_,hc⟩:=j8 k;have hf:PySem.W.findObj K C none "__class__"=some (.bind (.builtin "getset_descriptor.__get__") (.builtin "object.__class__")):=by unfold PySem.W.findObj;rw[hc,Option.bind_some,k.cls,Option.bind_some];simp[k.spc,k.tks]
  refine CV X I k.gga k.gat k.bas hf (CD ?_);exact PySem.W.class_get (s:={ s with toks:=s.toks+1}) (ox:=ox) (od:=none) X I k.mro (PySem.W.handed_on rfl h)
section
theorem CW(I:L2.Inv X ah σ H s)(p:Pk X.K M H d v)(r:RelV v u)
  (e:PySem.W.kitOne X.K (Bh d) c=some b) (h:∀tk,Q (.bool b) { s with toks:=tk}):wpAny (model X.prog X.w) A (call (.builtin "isinstance") [u,c]) Q E s:=by
 cases d with
 |non=>have q:=p.non;subst q;cases r;exact t5 PySem.W.kitx_none I.lT True.intro e (λz=>nomatch z) h
 |bl y=>have q:=p.bl;subst q;cases r;exact t5 PySem.W.kitx_bool I.lT True.intro e (λz=>nomatch z) h
 |int i=>have q:=p.int;subst q;obtain⟨t,rfl⟩:=r;exact t5 PySem.W.kitx_int I.lT True.intro e (λz=>nomatch z) h
 |str y=>have q:=p.str;subst q;obtain⟨t,rfl⟩:=r;exact t5 PySem.W.kitx_str I.lT True.intro e (λz=>nomatch z) h
 |tup l=>obtain⟨a,xs,rfl,ha,_⟩:=p.tup;cases r;obtain⟨its,_,⟨o,h1,h2,_⟩,_⟩:=I.tuple ha.sq;exact t5 PySem.W.kitx_tuple I.lT ⟨o,h1,h2⟩ e (λz=>nomatch z) h
 |lst l=>obtain⟨a,xs,rfl,ha,_⟩:=p.list;cases r;obtain⟨its,_,pl,_⟩:=I.list (bX.of ha);obtain⟨o,h1,h2,_⟩:=pl.isList;exact t5 BD I.lT ⟨o,h1,h2⟩ e (λz=>nomatch z) h
 |fix l=>obtain⟨a,xs,rfl,ha,_⟩:=p.fix;cases r;obtain⟨its,_,pl,_⟩:=I.list ha.sq;obtain⟨o,h1,h2,_⟩:=pl.isList;exact t5 BD I.lT ⟨o,h1,h2⟩ e (λz=>nomatch z) h
 |emp=>
  cases p with
  |of q=>
   cases q with
   |emp _ ha=>cases r;obtain⟨_,_,vs,_,o,es,ep,h1,h2,_⟩:=I.hok _ _ ha;exact t5 PySem.W.kitx_dict I.lT ⟨o,h1,h2.1⟩ e (λz=>nomatch z) h
 |lq C=>
  cases p with
  |of q=>
   cases q with
   |lq k _ ha=>cases r;obtain⟨⟨o,h1,h2,h3,h4⟩,_⟩:=I.hok _ _ ha;exact t5 (tQ k) I.lT ⟨o,h1,h2,h3,by rw[h4];trivial⟩ e (λz=>nomatch z) h
theorem CZ:eV X (.builtin "isinstance") (λxs H Q=>∃x n M d b,xs=[x,.ty n]/\Pk X.K M H d x/\PySem.W.kitOne X.K (Bh d) (.type n)=some b/\Q (.bl b) H):=by intro ah s σ H xs us Q I r h;obtain⟨x,n,M,d,b,rfl,p,e,q⟩:=h;obtain⟨u,w',rfl,r1,r2⟩:=vals2 r;cases r2;exact CW I p r1 e λtk=>⟨.bl b,H,I.tok tk,rfl,q⟩
theorem PN(hK:z.K=X.K)(h:aB X z a g r1 g1)(hp:pk r1 g1=some d)(he:∀M H v,Pk X.K M H d v->PySem.W.kitOne X.K (Bh d) (.type n)=some b)
  (hg:Gl X "isinstance") (hm:X.mg "isinstance"=none) (hv:bootBuiltins "isinstance"=some (.builtin "isinstance")) (gT:Gl X T) (mT:X.mg T=none) (vT:bootBuiltins T=some (.type n)) (nT:T≠ "__name__") (dT:(T==("__debug__":Str))=false)
  (hs:starEach [a,.Name T pT] X.env=(false,eval a X.env)::starEach [.Name T pT] X.env):aB X z (.Call (.Name "isinstance" p) [a,.Name T pT] [] pos) g (.dat (.bl b)) g1:=by
 obtain⟨t,q,k⟩:=h;have ZL:PE X (.Name T pT) (tC (.ty n)):=qP gT mT vT rfl nT dT;refine⟨_,jG CZ hg hm hv (bC q (bC ZL dR) hs) ⋯ ⋯ hs,λσ As M H Q s kk=>k σ As M H _ s λv H' aA M' s' st R=>?_⟩
 have p:=hK▸s'.pk (aq.refl _ _) R hp;exact⟨v,n,M',d,b,rfl,p,he _ _ _ p,kk _ H' aA M' s' st (.bl b)⟩
end
inductive Fl where
 |nx |rt (r:R) |bk |ct
def jN(z:Z)(M:List Addr)(H:Hp)(E:Ends)(g':G):Fl->Prop
 |.nx=>∀σ' aA M' H',S z g' σ' aA M' H'->aq M H M' H'->E.nx σ' H'
 |.bk=>∀σ' aA M' H',S z g' σ' aA M' H'->aq M H M' H'->E.bk σ' H'
 |.ct=>∀σ' aA M' H',S z g' σ' aA M' H'->aq M H M' H'->E.ct σ' H'
 |.rt r=>∀v σ' aA M' H',S z g' σ' aA M' H'->aq M H M' H'->cU z g' σ' aA M' H' r v->E.rt v H'
def fT(X:Cx)(z:Z)(st:Stmt)(g:G)(f:Fl)(g':G):Prop:=
 ∃t,PS X st t/\∀σ As M H E,S z g σ As M H->jN z M H E g' f->t E σ H
def dX(X:Cx)(z:Z)(jB:List Stmt)(g:G)(f:Fl)(g':G):Prop:=
 ∃t,qO X jB t/\∀σ As M H E,S z g σ As M H->jN z M H E g' f->t E σ H
section
variable{st:Stmt}
theorem jN.trans(st:aq M H M1 H1)(h:jN z M H E g' f):jN z M1 H1 E g' f:=by
 cases f with
 |nx=>exact λσ' aA M' H' s' st'=>h σ' aA M' H' s' (st.trans st')
 |bk=>exact λσ' aA M' H' s' st'=>h σ' aA M' H' s' (st.trans st')
 |ct=>exact λσ' aA M' H' s' st'=>h σ' aA M' H' s' (st.trans st')
 |rt r=>exact λv σ' aA M' H' s' st' R=>h v σ' aA M' H' s' (st.trans st') R
theorem Dc:dX X z [] g .nx g:=⟨_,HX,λσ As M H E s k=>k σ As M H s (aq.refl _ _)⟩
theorem Jf(h1:fT X z st g .nx g1)(h2:dX X z jB g1 f g2):dX X z (st::jB) g f g2:=by obtain⟨t1,q1,k1⟩:=h1;obtain⟨t2,q2,k2⟩:=h2;exact⟨_,dM q1 q2,λσ As M H E s k=>k1 σ As M H _ s λσ' aA M' H' s' st'=>k2 σ' aA M' H' E s' (k.trans st')⟩
theorem PX(h1:fT X z st g (.rt r) g1):dX X z (st::jB) g (.rt r) g1:=by obtain⟨t1,q1,k1⟩:=h1;exact⟨_,dM q1 bf,λσ As M H E s k=>k1 σ As M H _ s k⟩
theorem P0(h1:fT X z st g .bk g1):dX X z (st::jB) g .bk g1:=by obtain⟨t1,q1,k1⟩:=h1;exact⟨_,dM q1 bf,λσ As M H E s k=>k1 σ As M H _ s k⟩
theorem P1(h1:fT X z st g .ct g1):dX X z (st::jB) g .ct g1:=by obtain⟨t1,q1,k1⟩:=h1;exact⟨_,dM q1 bf,λσ As M H E s k=>k1 σ As M H _ s k⟩
theorem P4(h:aB X z e g r g1):fT X z (.Return (some e) pos) g (.rt r) g1:=by obtain⟨t,q,k⟩:=h;exact⟨_,qQ q,λσ As M H E s kk=>k σ As M H _ s λv H' aA M' s' st R=>kk v σ aA M' H' s' st R⟩
theorem Jg(h:aB X z e g r g1)(hs:swapsWith e none pos.line X.env=pure false):fT X z (.Expr e pos) g .nx g1:=by obtain⟨t,q,k⟩:=h;exact⟨_,lU q hs,λσ As M H E s kk=>k σ As M H _ s λv H' aA M' s' st R=>kk σ aA M' H' s' st⟩
theorem Ms(h:cD X z c g v g1)(h2:dX X z (if v then a else b) g1 f g2):fT X z (.If c a b pos) g f g2:=by
 obtain⟨t,q,k⟩:=h;obtain⟨t2,q2,k2⟩:=h2;cases v with
 |true=>exact⟨_,mK q q2 bf,λσ As M H E s kk=>k σ As M H _ s λH' aA M' s' st=>j6 (k2 σ aA M' H' E s' (kk.trans st))⟩
 |false=>exact⟨_,mK q bf q2,λσ As M H E s kk=>k σ As M H _ s λH' aA M' s' st=>o9 (k2 σ aA M' H' E s' (kk.trans st))⟩
theorem Jh(hN:X.N.Nodup)(hi:X.N[i]?=some x)(hx:Loc X.env.scope x)(h:aB X z e g (.dat d) g1)(hs:swapsWith e (some (.Name x pos')) pos.line X.env=pure false)(hf:X.fn x=true\/X.env.scope.names.lookup x=some .local)(hb:i∉z.bor) :
  fT X z (.Assign [.Name x pos'] e pos) g .nx (g1.set i (.dat d)):=by
 obtain⟨t,q,k⟩:=h;refine⟨_,mO hN hi hx q hs hf,λσ As M H E s kk=>k σ As M H _ s λv H' aA M' s' st R=>?_⟩
 obtain⟨bu,s2⟩:=s'.fS (i:=i) hb R;exact kk _ bu M' H' s2 st
theorem Ji(hN:X.N.Nodup)(hi:X.N[i]?=some x)(hx:Loc X.env.scope x)(h:aB X z e g (.new l) g1)(hl:i<g1.length)(hs:swapsWith e (some (.Name x pos')) pos.line X.env=pure false)(hf:X.fn x=true\/X.env.scope.names.lookup x=some .local)(hb:i∉z.bor) :
  fT X z (.Assign [.Name x pos'] e pos) g .nx (g1.set i (.own l)):=by
 obtain⟨t,q,k⟩:=h;refine⟨_,mO hN hi hx q hs hf,λσ As M H E s kk=>k σ As M H _ s λv H' aA M' s' st R=>?_⟩
 obtain⟨a,xs,rfl,hm,hA,h0,ha,rr⟩:=R;obtain⟨bu,s2⟩:=s'.rB hb hl hm hA h0 ha rr;exact kk _ bu M' H' s2 st
end
def ZM(X:Cx)(jB:List Stmt):TS:=λE σ H=>∃t,qO X jB t/\t E σ H
theorem xT{X:Cx}{jB:List Stmt}:qO X jB (ZM X jB):=λah s σ H E I h=>let ⟨t,q,k⟩:=h;q ah s σ H E I k
section
theorem drop_cons{α:Type}{l:List α}{n:Nat}{a:α}(h:l[n]?=some a):l.drop n=a::l.drop (n+1):=by obtain⟨h1,h2⟩:=dE.mp h;rw[List.drop_eq_getElem_cons h1,h2]
end
noncomputable def cu(lo:Int)(n:Nat):List D:=(List.range n).map λ(k:Nat)=>D.int (lo+(k:Int))
section
theorem Dd{lo:Int}{n k:Nat}(h:k<n):(cu lo n)[k]?=some (.int (lo+(k:Int))):=by unfold cu;rw[oP,B9 h];rfl
theorem tR{lo:Int}{n:Nat}:(cu lo n).length=n:=by unfold cu;simp
theorem zB(h:cQ X z [a] g [.dat (.int j)] g1)(hg:Gl X "range")(hm:X.mg "range"=none)(hs:starEach [a] X.env=[(false,eval a X.env)])(h1 : -(2 ^ 62)<=j)(h2:j<2 ^ 62) :
  ∃wi,PI X tg (.Call (.Name "range" p) [a] [] rp) wi/\∀σ As M H (Q:It->Hp->Prop),S z g σ As M H->(∀H' aA M',S z g1 σ aA M' H'->aq M H M' H'->Q (N2 0 j.toNat) H')->wi σ H Q:=by
 obtain⟨t,q,k⟩:=h;refine⟨_,pU hg hm q hs,λσ As M H Q s kk=>k σ As M H _ s λvs H' aA M' s' st R=>?_⟩
 cases R with
 |dat r R=>cases R;cases r;exact⟨j,rfl,h1,h2,kk H' aA M' s' st⟩
theorem zC(h:cQ X z [a,b] g [.dat (.int c),.dat (.int j)] g1)(hg:Gl X "range")(hm:X.mg "range"=none)(hs:starEach [a,b] X.env=[(false,eval a X.env),(false,eval b X.env)])(hs2:starEach [b] X.env=[(false,eval b X.env)])
  (h1 : -(2 ^ 62)<=c/\c<2 ^ 62/\-(2 ^ 62)<=j/\j<2 ^ 62) {tg:Expr} :
  ∃wi,PI X tg (.Call (.Name "range" p) [a,b] [] rp) wi/\∀σ As M H (Q:It->Hp->Prop),S z g σ As M H->(∀H' aA M',S z g1 σ aA M' H'->aq M H M' H'->Q (N2 c (j - c).toNat) H')->wi σ H Q:=by
 obtain⟨t,q,k⟩:=h;refine⟨_,yZ hg hm q hs hs2,λσ As M H Q s kk=>k σ As M H _ s λvs H' aA M' s' st R=>?_⟩
 cases R with
 |dat r R=>cases R with |dat r2 R=>cases R;cases r;cases r2;exact⟨c,j,rfl,h1,kk H' aA M' s' st⟩
end
section
theorem zD(hN:X.N[i]?=some x)(hv:gR X.env.scope x)(hd:(x==("__debug__":Str))=false)(bI:(x==("__classdict__":Str))=false)(hg:g[i]?=some (.own l0))(h:cQ X z [e] g [.dat d] g1)(vn:g1[i]?=some (.own l))(hl:l.length<16777216)
  (hbase:attributeBase (.Name x pn) "append" X.env (eval (.Name x pn) X.env)=eval (.Name x pn) X.env)
  (hfew:((backTo aU (starEach [e] X.env)).all (λx=>!x.1)&&(backToKw aU (keywordEach [] X.env)).all (λx=>x.1.isSome)
   && decide ([e].length+([]:List Keyword).length+(if ([]:List Keyword).isEmpty then 0 else 1)<30))=true)
  (hline:(bH.endLine==aU.line)=true) (hs:starEach [e] X.env=(false,eval e X.env)::starEach [] X.env):aB X z (.Call (.Attribute (.Name x pn) "append" bH) [e] [] aU) g (.dat .non) (g1.set i (.own (l++[d]))):=by
 obtain⟨t,q,k⟩:=h;refine⟨_,tE u7 AS AT iF (cg hN hv hd bI) q hbase hfew hline hs rfl,λσ As M H Q s kk=>?_⟩
 obtain⟨a,xs,e1,e2,e3,e4⟩:=s.sl.at hg;refine⟨.ref a,e1,.inl ⟨rfl,xs,bX.of e3⟩,k σ As M H _ s λvs H' aA M' s' st R=>?_⟩
 obtain⟨b,ys,f1,f2,f3,f4⟩:=s'.sl.at vn;rw[e1]at f1;injection f1 with f1;injection f1 with f1;injection f1 with f1;subst f1;cases R with
 |dat r R=>
  cases R;refine⟨a,ys,_,rfl,rfl,f3,by rw[<- f4.length,l5];exact hl,?_⟩
  obtain⟨s2,aL⟩:=s'.write vn e1 (f4.append (.cons r .nil));exact kk _ _ aA M' s2 (st.trans aL) .non
end
section
theorem Jj(hN:X.N[i]?=some x)(hv:gR X.env.scope x)(hd:(x==("__debug__":Str))=false)(bI:(x==("__classdict__":Str))=false)(h:aB X z e g (.dat d) g1)(vn:g1[i]?=some (.own l0))(h2:aB X z ix g1 (.dat (.int k)) g2)(hg2:g2[i]?=some (.own l))(hj:oZ l.length k=some j)
  (ha:∀v,assign (.Subscript (.Name x pn) ix eS) X.env v=(do
   let ov <- holding [v] (eval (.Name x pn) X.env)
   let iv <- holding [v,ov] (eval ix X.env)
   standAt eS
   holding [v,ov,iv] (setItem ov iv v)
   release [v,ov,iv] []))
  (hs:swapsWithSole [.Subscript (.Name x pn) ix eS] e pos.line X.env=pure false) (hw:swappedStores [.Subscript (.Name x pn) ix eS] e X.env=pure none)
  (h1:(assignEach [.Subscript (.Name x pn) ix eS] X.env).map (·.2)=[assign (.Subscript (.Name x pn) ix eS) X.env]) :
  fT X z (.Assign [.Subscript (.Name x pn) ix eS] e pos) g .nx (g2.set i (.own (l.set j d))):=by
 obtain⟨t,q,kk⟩:=h;obtain⟨t2,q2,k2⟩:=h2;refine⟨_,BK q (NT (cg hN hv hd bI) q2 set_list ha) hs hw h1,λσ As M H E s kE=>kk σ As M H _ s λv H1 aO M1 s1 dB R1=>?_⟩
 obtain⟨a,xs,e1,e2,e3,e4⟩:=s1.sl.at vn;refine⟨.ref a,e1,k2 σ aO M1 H1 _ s1 λw H2 bu M2 s2 aL R2=>?_⟩
 obtain⟨b,ys,f1,f2,f3,f4⟩:=s2.sl.at hg2;rw[e1]at f1;injection f1 with f1;injection f1 with f1;injection f1 with f1;subst f1;have R2':Rep z.K M2 H2 (.int k) w:=R2;cases R2';refine⟨a,ys,k,j,rfl,rfl,f3,by rw[<- f4.length];exact hj,?_⟩
 obtain⟨s3,gF⟩:=s2.write hg2 e1 (aH.set (Rep.stay aL R1) j f4);exact kE σ bu M2 _ s3 (dB.trans (aL.trans gF))
theorem aH.eraseIdx{K:Frag}{M:List Addr}{H:Hp}:∀{ds:List D}{vs:List V} (n:Nat),aH K M H ds vs->aH K M H (ds.eraseIdx n) (vs.eraseIdx n)
 |_,_,_,.nil=>.nil
 |_,_,0,.cons _ t=>t
 |_,_,n+1,.cons r t=>.cons r (aH.eraseIdx n t)
theorem De(hN:X.N[i]?=some x)(hv:gR X.env.scope x)(hd:(x==("__debug__":Str))=false)(bI:(x==("__classdict__":Str))=false)(hg:g[i]?=some (.own l0))(h:cQ X z [e] g [.dat (.int k)] g1)(vn:g1[i]?=some (.own l))(hk:oZ l.length k=some j)(hy:l[j]?=some d)(hl:l.length<16777216)
  (hbase:attributeBase (.Name x pn) "pop" X.env (eval (.Name x pn) X.env)=eval (.Name x pn) X.env)
  (hfew:((backTo aU (starEach [e] X.env)).all (λx=>!x.1)&&(backToKw aU (keywordEach [] X.env)).all (λx=>x.1.isSome)
   && decide ([e].length+([]:List Keyword).length+(if ([]:List Keyword).isEmpty then 0 else 1)<30))=true)
  (hline:(bH.endLine==aU.line)=true) (hs:starEach [e] X.env=(false,eval e X.env)::starEach [] X.env):aB X z (.Call (.Attribute (.Name x pn) "pop" bH) [e] [] aU) g (.dat d) (g1.set i (.own (l.eraseIdx j))):=by
 obtain⟨t,q,k0⟩:=h;refine⟨_,tE u7 PySem.F.slot_list_pop PySem.F.type_list_pop Ck (cg hN hv hd bI) q hbase hfew hline hs rfl,λσ As M H Q s kk=>?_⟩
 obtain⟨a,xs,e1,e2,e3,e4⟩:=s.sl.at hg;refine⟨.ref a,e1,.inl ⟨rfl,xs,bX.of e3⟩,k0 σ As M H _ s λvs H' aA M' s' st R=>?_⟩
 obtain⟨b,ys,f1,f2,f3,f4⟩:=s'.sl.at vn;rw[e1]at f1;injection f1 with f1;injection f1 with f1;injection f1 with f1;subst f1;cases R with
 |dat r R=>
  cases R;cases r;obtain⟨h1,h2,h3,h4⟩:=qX hk;obtain⟨v,g1',g2'⟩:=f4.get hy;obtain⟨s2,aL⟩:=s'.write vn e1 (aH.eraseIdx j f4);refine⟨a,ys,k,j,v,rfl,rfl,f3,by lia,by lia,by rw[<- f4.length];exact h1,g1',?_⟩
  exact kk _ _ aA M' s2 (st.trans aL) (g2'.stay aL)
end
noncomputable def bY:List R->G->Option G
 | [],_=>some []
 |.dat d::rs,g=>match bY rs g with |some gs=>some (.dat d::gs) |none=>none
 |.var i::rs,g=>match g[i]? with
  |some (.own l)=>match bY rs g with |some gs=>some (.own l::gs) |none=>none
  |_=>none
 |.new _::_,_=>none
noncomputable def vars:Nat->List R->List (Nat×Nat)
 |_,[]=>[]
 |j,.var i::rs=>(j,i)::vars (j+1) rs
 |j,.dat _::rs=>vars (j+1) rs
 |j,.new _::rs=>vars (j+1) rs
noncomputable def back:List (Nat×Nat)->G->G->Option G
 | [],_,g=>some g
 | (j,i)::ps,gc,g=>match gc[j]? with
  |some (.own l)=>back ps gc (g.set i (.own l))
  |_=>none
noncomputable def cV(bor:List Nat)(g':G):R->Option R
 |.dat d=>some (.dat d)
 |.new l=>some (.new l)
 |.var j=>if j∈bor then none else match g'[j]? with |some (.own l)=>some (.new l) |_=>none
noncomputable def adr(σ:Sg)(i:Nat):Addr:=match σ[i]? with |some (some (.ref a))=>a |_=>0
theorem ji(h:σ[i]?=some (some (.ref a))):adr σ i=a:=by unfold adr;rw[h]
def cz(σ:Sg)(ps:List (Nat×Nat)):List (Nat×Addr):=ps.map λp=>(p.1,adr σ p.2)
noncomputable def dh(n:Nat)(gs:G):G:=gs++List.replicate (n - gs.length) .no
theorem Slots.append{K:Frag}{M:List Addr}{H:Hp}{g1 g2:G}{σ1 σ2:Sg}{A1 A2:List Addr}(p:Slots K M H g1 σ1 A1)(q:Slots K M H g2 σ2 A2):Slots K M H (g1++g2) (σ1++σ2) (A1++A2):=by
 induction p with
 |nil=>exact q
 |no p ih=>exact .no ih
 |dat r p ih=>exact .dat r ih
 |own e r p ih=>exact .own e r ih
theorem Slots.Yb{K:Frag}{M:List Addr}{H:Hp}:∀(n:Nat),Slots K M H (List.replicate n .no) (List.replicate n none) []
 | 0=>.nil
 |n+1=>by rw[l9,l9];exact .no (Slots.Yb n)
section
theorem Slots.xU{K:Frag}{g:G}{σ:Sg}{As:List Addr}{i j:Nat}{a:Addr}{l l':List D}(q:Slots K M H g σ As)(nd:As.Nodup)(e1:g[i]?=some (.own l))(e2:g[j]?=some (.own l'))(e3:σ[i]?=some (some (.ref a)))(e4:σ[j]?=some (some (.ref a))):i=j:=by
 induction q generalizing i j with
 |nil=>exact nomatch (show none=some (Slot.own l)from e1)
 |no q ih=>cases i with
  |zero=>exact nomatch (show some Slot.no=some (Slot.own l)from e1)
  |succ i=>cases j with
   |zero=>exact nomatch (show some Slot.no=some (Slot.own l')from e2)
   |succ j=>exact congrArg (· + 1) (ih nd e1 e2 e3 e4)
 |dat r q ih=>cases i with
  |zero=>exact nomatch (show some (Slot.dat _)=some (Slot.own l)from e1)
  |succ i=>cases j with
   |zero=>exact nomatch (show some (Slot.dat _)=some (Slot.own l')from e2)
   |succ j=>exact congrArg (· + 1) (ih nd e1 e2 e3 e4)
 |@own g σ As b xs ds h r q ih=>
  have no:∀{i:Nat}{l:List D},g[i]?=some (.own l)->σ[i]?=some (some (.ref a))->b=a->False:=λ{i l} e1 e3 e=>by
   obtain⟨c,xs,h1,h2,_⟩:=q.at e1;cases (show some (some (V.ref c))=some (some (V.ref a))from h1.symm.trans e3)
   exact (fA.mp nd).1 (e▸h2)
  cases i with
  |zero=>cases j with
   |zero=>rfl
   |succ j=>cases (show some (some (V.ref b))=some (some (V.ref a))from e3);exact (no e2 e4 rfl).elim
  |succ i=>cases j with
   |zero=>cases (show some (some (V.ref b))=some (some (V.ref a))from e4);exact (no e1 e3 rfl).elim
   |succ j=>exact congrArg (· + 1) (ih (fA.mp nd).2 e1 e2 e3 e4)
theorem nG(s:S z g σ As M H)(j:Nat)(q:jh z σ M H rs vs)(e:bY rs g=some gs) :
  gs.length=vs.length/\Slots z.K M H gs (vs.map some) ((cz σ (vars j rs)).map (·.2))/\
  (∀p∈cz σ (vars j rs),∃n l,p.1=j+n/\gs[n]?=some (.own l)/\vs[n]?=some (.ref p.2))/\
  (∀n l a,gs[n]?=some (.own l)->vs[n]?=some (.ref a)->(j+n,a)∈cz σ (vars j rs))/\
  (∀p∈vars j rs,∃l a,g[p.2]?=some (.own l)/\σ[p.2]?=some (some (.ref a))/\a∈As):=by
 induction q generalizing gs j with
 |nil=>cases e;exact⟨rfl,.nil,(λp hp=>nomatch hp),(λn l a h=>by simp at h),(λp hp=>nomatch hp)⟩
 |@dat d v rs vs r q ih=>
  unfold bY at e;cases e2:bY rs g with
  |none=>rw[e2]at e;cases e
  |some gs=>
   rw[e2]at e;cases e;obtain⟨h1,h2,h3,h4,h5⟩:=ih (j+1) e2;refine⟨by simp[h1],.dat r h2,λp hp=>?_,λn l a e1 e3=>?_,h5⟩
   . obtain⟨n,l,q1,q2,q3⟩:=h3 p hp;exact⟨n+1,l,by lia,by simpa using q2,by simpa using q3⟩
   .
    cases n with
    |zero=>simp at e1
    |succ n=>
     have:=h4 n l a (by simpa using e1) (by simpa using e3)
     rw[show j+(n+1)=j+1+n by lia]
     exact this
 |@var i v rs vs r q ih=>
  unfold bY at e;split at e
  .
   rename_i l hg;cases e2:bY rs g with
   |none=>rw[e2]at e;cases e
   |some gs=>
    rw[e2]at e;cases e;obtain⟨h1,h2,h3,h4,h5⟩:=ih (j+1) e2;obtain⟨a,xs,f1,f2,f3,f4⟩:=s.sl.at hg;have ea:adr σ i=a:=ji f1;rw[r]at f1;injection f1 with f1;injection f1 with f1;subst f1;have el:cz σ (vars j (.var i::rs))=(j,a)::cz σ (vars (j+1) rs):=by show (j,adr σ i)::cz σ (vars (j+1) rs)=_;rw[ea]
    rw[el];refine⟨by simp[h1],.own f3 f4 h2,λp hp=>?_,λn l' b e1 e3=>?_,λp hp=>?_⟩
    .
     rcases d0.mp hp with rfl |hp
     . exact⟨0,l,rfl,rfl,rfl⟩
     . obtain⟨n,l,q1,q2,q3⟩:=h3 p hp;exact⟨n+1,l,by lia,by simpa using q2,by simpa using q3⟩
    .
     cases n with
     |zero=>
      have e4:a=b:=by simpa using e3
      subst e4;exact dA
     |succ n=>
      have:=h4 n l' b (by simpa using e1) (by simpa using e3)
      rw[show j+(n+1)=j+1+n by lia]
      exact b0 _ this
    .
     rcases d0.mp (show p∈(j,i)::vars (j+1) rs from hp)with rfl |hp
     . exact⟨l,a,hg,r,f2⟩
     . exact h5 p hp
  . cases e
theorem qg{α β:Type}{f:α->β}:∀{l:List α},l.Nodup->(∀a∈l,∀b∈l,f a=f b->a=b)->(l.map f).Nodup
 | [],_,_=>oI
 |x::l,nd,h=>by
  rw[List.map_cons];refine fA.mpr ⟨λhm=>?_,qg (fA.mp nd).2 λa ha b hb=>h a (b0 _ ha) b (b0 _ hb)⟩
  obtain⟨y,hy,e⟩:=i3.mp hm;have:=h y (b0 _ hy) x dA e;exact (fA.mp nd).1 (this▸hy)
def qh(z:Z)(σ:Sg)(M:List Addr)(H:Hp)(rs:List R):Z:=⟨z.K,H,M,cz σ (vars 0 rs),z.T⟩
theorem j9:(qh z σ M H rs).bor=(vars 0 rs).map (·.1):=by show (cz σ (vars 0 rs)).map (·.1)=_;unfold cz;rw[List.map_map];rfl
theorem S.enter(s:S z g σ As M H){rs:List R}{vs:List V}{gs:G}{N:List Str}(r:jh z σ M H rs vs)(e:bY rs g=some gs)(nd:((vars 0 rs).map (·.2)).Nodup) :
  S (qh z σ M H rs) (dh N.length gs) (start N vs) ((cz σ (vars 0 rs)).map (·.2)) M H:=by
 obtain⟨h1,h2,h3,h4,h5⟩:=nG s 0 r e;have eB:(cz σ (vars 0 rs)).map (·.2)=((vars 0 rs).map (·.2)).map (adr σ):=by unfold cz;rw[List.map_map,List.map_map];rfl
 have mem:∀b∈(cz σ (vars 0 rs)).map (·.2),b∈As:=λb hb=>by
  rw[eB]at hb;obtain⟨i,hi,e⟩:=i3.mp hb;obtain⟨p,hp,e'⟩:=i3.mp hi;obtain⟨l,a,q1,q2,q3⟩:=h5 p hp;subst e';rw[ji q2]at e;subst e;exact q3
 have pre:∀{n:Nat}{o:Slot},gs[n]?=some o->(dh N.length gs)[n]?=some o:=λ{n o} q=>by
  unfold dh;rw[dS (dE.mp q).1];exact q
 have ZN:∀(n:Nat) (l:List D),(dh N.length gs)[n]?=some (.own l)->gs[n]?=some (.own l):=λn l q=>by
  unfold dh at q;rcases xI n gs.length with h |h
  . rw[dS h]at q;exact q
  . rw[d6 h]at q;have:=i8 q;rw[t7]at this;exact absurd this.2 ⋯
 have st:∀{n:Nat}{v:V},vs[n]?=some v->(start N vs)[n]?=some (some v):=λ{n v} q=>by
  unfold L2.start;rw[dS (by rw[eR];exact (dE.mp q).1),oP,q]
  rfl
 have st':∀{n:Nat}{v:V},(start N vs)[n]?=some (some v)->vs[n]?=some v:=λ{n v} q=>by
  unfold L2.start at q;rcases xI n vs.length with h |h
  .
   rw[dS (by rw[eR];exact h),oP]at q
   cases e:vs[n]? with
   |none=>rw[e]at q;cases q
   |some w=>rw[e]at q;injection q with q
  .
   rw[d6 (by rw[eR];exact h)]at q
   have:=i8 q;rw[t7]at this;exact absurd this.2 ⋯
 refine⟨?_,?_,λa ha=>s.sub a (mem a ha),λn a l q1 q2=>.inl ?_,s.live,λb o e _ _=>e,λm hm=>hm,λm hm=>?_,λb hb=>s.sub b (mem b hb),λp hp=>?_,s.tab,λp hp=>s.gW _ (s.tm p hp),s.tt⟩
 .
  have q:=h2.append (Slots.Yb (K:=z.K) (M:=M) (H:=H) (N.length - gs.length));rw[l4]at q;have e':start N vs=vs.map some++List.replicate (N.length - gs.length) none:=by unfold L2.start;rw[h1]
  rw[e'];exact q
 .
  rw[eB];refine qg nd λi hi j hj e=>?_
  obtain⟨p,hp,rfl⟩:=i3.mp hi;obtain⟨p',xV,rfl⟩:=i3.mp hj;obtain⟨l,a,q1,q2,q3⟩:=h5 p hp;obtain⟨l',a',jJ,rF,Hu⟩:=h5 p' xV;rw[ji q2,ji rF]at e;subst e;exact s.sl.xU s.nd q1 jJ q2 rF
 . have hm:=h4 n l a (ZN n l q1) (st' q2);rw[AU]at hm;exact⟨pE (f:=(·.1)) hm,pE (f:=(·.2)) hm⟩
 . exact λe=>s.fresh e hm
 . obtain⟨n,l,q1,q2,q3⟩:=h3 p hp;rw[AU]at q1;rw[q1];exact⟨st q3,l,pre q2⟩
theorem Slots.transfer{K:Frag}{M M2:List Addr}{H H':Hp}(st:aq M H M2 H'){g g2:G}{σ:Sg}{As:List Addr}(q:Slots K M H g σ As)(hl:g2.length=g.length)
  (h1:∀(i:Nat) (l:List D) (a:Addr),g[i]?=some (.own l)->σ[i]?=some (some (.ref a))->∃l' xs',g2[i]?=some (.own l')/\H' a=some (.lst xs')/\aH K M2 H' l' xs')
  (h2:∀(i:Nat) (o:Slot),g[i]?=some o->(∀l,o≠.own l)->g2[i]?=some o):Slots K M2 H' g2 σ As:=by
 induction q generalizing g2 with
 |nil=>cases g2 with
  |nil=>exact .nil
  |cons a b=>cases hl
 |no q ih=>cases g2 with
  |nil=>cases hl
  |cons a b=>
   cases (show some a=some Slot.no from h2 0 .no rfl (λl z=>nomatch z))
   exact .no (ih (BI hl) (λi l a e1 e2=>h1 (i+1) l a e1 e2) λi o e1 e2=>h2 (i+1) o e1 e2)
 |@dat g σ As v d r q ih=>cases g2 with
  |nil=>cases hl
  |cons a b=>
   cases (show some a=some (Slot.dat d)from h2 0 (.dat d) rfl (λl z=>nomatch z))
   exact .dat (r.stay st) (ih (BI hl) (λi l a e1 e2=>h1 (i+1) l a e1 e2) λi o e1 e2=>h2 (i+1) o e1 e2)
 |@own g σ As a0 xs ds e0 r q ih=>cases g2 with
  |nil=>cases hl
  |cons a b=>
   obtain⟨l',xs',e1,e2,e3⟩:=h1 0 _ a0 rfl rfl;cases (show some a=some (Slot.own l')from e1)
   exact .own e2 e3 (ih (BI hl) (λi l a e1 e2=>h1 (i+1) l a e1 e2) λi o e1 e2=>h2 (i+1) o e1 e2)
theorem qi:∀{ps:List (Nat×Nat)}{g gO:G},back ps gc g=some gO->(ps.map (·.2)).Nodup->gO.length=g.length/\
  (∀i,i∉ps.map (·.2)->gO[i]?=g[i]?)/\∀p∈ps,p.2<g.length->∃l,gc[p.1]?=some (.own l)/\gO[p.2]?=some (.own l)
 | [],g,gO,e,_=>by cases e;exact⟨rfl,λ_ _=>rfl,λp hp=>nomatch hp⟩
 | (j,i)::ps,g,gO,e,nd=>by
  unfold back at e;split at e
  .
   rename_i l hg;obtain⟨h1,h2,h3⟩:=qi e (fA.mp nd).2;refine⟨by rw[h1,i4],λk hk=>?_,λp hp yU=>?_⟩
   .
    have n1:k∉ps.map (·.2):=λz=>hk (b0 _ z)
    have n2:i≠k:=λz=>hk (z▸dA)
    rw[h2 k n1,eC n2]
   .
    rcases d0.mp hp with rfl |hp
    . refine⟨l,hg,?_⟩;have hlt':i<g.length:=yU;rw[h2 i (fA.mp nd).1,eQ hlt']
    . exact h3 p hp (by rw[i4];exact yU)
  . cases e
theorem S.leave(s:S z g σ As M H){rs:List R}{vs:List V}{gs gc gO:G}{σc:Sg}{Ac Mc:List Addr}{Hc:Hp}{r r':R}{v:V}(rw':jh z σ M H rs vs)(e:bY rs g=some gs)(nd:((vars 0 rs).map (·.2)).Nodup)
  (sc:S (qh z σ M H rs) gc σc Ac Mc Hc) (st:aq M H Mc Hc) (q:cU (qh z σ M H rs) gc σc Ac Mc Hc r v) (hb:back (vars 0 rs) gc g=some gO) (hr:cV ((vars 0 rs).map (·.1)) gc r=some r') :
  ∃M2,S z gO σ As M2 Hc/\aq M H M2 Hc/\cU z gO σ As M2 Hc r' v:=by
 obtain⟨h1,h2,h3,h4,h5⟩:=nG s 0 rw' e;obtain⟨b1,b2,b3⟩:=qi hb nd;have hM:∀m∈M,m∈Mc:=sc.gW;have core:∀M2:List Addr,(∀m∈M,m∈M2)->(∀m∈M2,m∈Mc)->aq M H M2 Hc->S z gO σ As M2 Hc:=by
  intro M2 m1 m2 aL;refine⟨s.sl.transfer aL b1 (λi l a e1 e2=>?_) (λi o e1 e2=>?_),s.nd,λa ha=>m1 a (s.sub a ha),λi a l e1 e2=>?_,λm hm=>sc.live m (m2 m hm),λb o e1 e2 et=>?_,λm hm=>m1 m (s.gW m hm),s.m0,s.bm,λp hp=>⟨(s.iP p hp).1,?_⟩,sc.tab,s.tm,s.tt⟩
  .
   by_cases hi:i∈(vars 0 rs).map (·.2)
   .
    obtain⟨p,hp,rfl⟩:=i3.mp hi;obtain⟨l',q1,q2⟩:=b3 p hp (dE.mp e1).1;have hl:(p.1,adr σ p.2)∈cz σ (vars 0 rs):=pE (f:=λp:Nat×Nat=>(p.1,adr σ p.2)) hp
    obtain⟨c1,c2⟩:=sc.iP _ hl;obtain⟨a',xs,d1,d2,d3,d4⟩:=sc.sl.at q1;rw[c1]at d1;injection d1 with d1;injection d1 with d1;injection d1 with d1;rw[ji e2]at d1;subst d1;exact⟨l',xs,q2,d3,aH.stay (aq.less m2) d4⟩
   .
    obtain⟨a',xs,d1,d2,d3,d4⟩:=s.sl.at e1;rw[e2]at d1;injection d1 with d1;injection d1 with d1;injection d1 with d1;subst d1;refine⟨l,xs,by rw[b2 i hi];exact e1,sc.keep a _ d3 (λhB=>?_) (s.Mq d3),d4.stay aL⟩
    obtain⟨p,hp,ep⟩:=i3.mp (show a∈(cz σ (vars 0 rs)).map (·.2)from hB);obtain⟨p',xV,rfl⟩:=i3.mp hp;obtain⟨l2,a2,q1,q2,q3⟩:=h5 p' xV;have HW:adr σ p'.2=a:=ep;rw[ji q2]at HW;subst HW;have:=s.sl.xU s.nd e1 q1 e2 q2;exact hi (this▸pE (f:=(·.2)) xV)
  .
   refine (b2 i λhi=>?_).trans e1
   obtain⟨p,hp,rfl⟩:=i3.mp hi;obtain⟨l2,a2,q1,q2,q3⟩:=h5 p hp;rw[e1]at q1;injection q1 with q1;exact e2 l2 q1
  .
   by_cases hi:i∈(vars 0 rs).map (·.2)
   . obtain⟨p,hp,rfl⟩:=i3.mp hi;obtain⟨l2,a2,q1,q2,q3⟩:=h5 p hp;exact s.own p.2 a l2 q1 e2
   . rw[b2 i hi]at e1;exact s.own i a l e1 e2
  .
   have e3:=s.keep b o e1 e2 et;refine sc.keep b o e3 (λhB=>?_) et
   obtain⟨p,hp,ep⟩:=i3.mp (show b∈(cz σ (vars 0 rs)).map (·.2)from hB);obtain⟨p',xV,rfl⟩:=i3.mp hp;obtain⟨l2,a2,q1,q2,q3⟩:=h5 p' xV;have HW:adr σ p'.2=b:=ep;rw[ji q2]at HW;subst HW;rcases s.own p'.2 a2 l2 q1 q2 with w |w
   . exact e2 w.2
   . rw[w]at e1;cases e1
  .
   by_cases hi:p.1∈(vars 0 rs).map (·.2)
   . obtain⟨p',xV,e'⟩:=i3.mp hi;have e'':p'.2=p.1:=e';obtain⟨l2,a2,q1,q2,q3⟩:=h5 p' xV;obtain⟨l',jJ,rF⟩:=b3 p' xV (dE.mp q1).1;exact⟨l',by rw[<- e''];exact rF⟩
   . rw[b2 p.1 hi];exact (s.iP p hp).2
 have new:∀(a:Addr) (xs:List V) (l:List D),v=.ref a->a∈Mc->H a=none->Hc a=some (.lst xs)->aH z.K Mc Hc l xs->∃M2,S z gO σ As M2 Hc/\aq M H M2 Hc/\cU z gO σ As M2 Hc (.new l) v:=by
  intro a xs l ev hm h0 hx rr;have m2:∀m∈a::M,m∈Mc:=λm hm'=>(d0.mp hm').elim (λe=>e▸hm) (hM m)
  have aL:aq M H (a::M) Hc:=st.trans (aq.less m2);refine⟨a::M,core _ (λm hm'=>b0 _ hm') m2 aL,aL,a,xs,ev,dA,λhA=>?_,s.bR h0,hx,rr.stay (aq.less m2)⟩
  exact s.fresh h0 (s.sub a hA)
 cases r with
 |dat d=>cases hr;have aL:aq M H M Hc:=st.trans (aq.less hM);exact⟨M,core M (λm h=>h) hM aL,aL,Rep.stay (aq.less hM) q⟩
 |new l=>cases hr;obtain⟨a,xs,rfl,c1,c2,c3,c4,c5⟩:=q;exact new a xs l rfl c1 c3 c4 c5
 |var j=>
  obtain⟨l,q1,q2⟩:=q;have hr:(if j∈(vars 0 rs).map (·.1)then none else match gc[j]? with |some (.own l)=>some (R.new l) |_=>none)=some r':=hr
  split at hr
  . cases hr
  .
   rename_i hj;rw[q1]at hr;cases hr;obtain⟨a,xs,d1,d2,d3,d4⟩:=sc.sl.at q1;rw[q2]at d1;injection d1 with d1;injection d1 with d1;subst d1;refine new a xs l rfl (sc.sub a d2) ?_ d3 d4;rcases sc.own j a l q1 q2 with w |w
   . have w':=w.1;rw[j9]at w';exact absurd w' hj
   . exact w
end
theorem jh.length(q:jh z σ M H rs vs):vs.length=rs.length:=by
 induction q with
 |nil=>rfl
 |dat r q ih=>exact congrArg (· + 1) ih
 |var r q ih=>exact congrArg (· + 1) ih
def Jk(K:Frag)(N:List Str)(np:Nat)(run:List Nat->G->R->G->Prop):Sp:=λvs H Q _=>
 vs.length=np/\∃(z:Z) (g g':G) (As M:List Addr) (r:R),z.K=K/\S z g (start N vs) As M H/\run z.bor g r g'/\
  ∀v σ' aA M' H',S z g' σ' aA M' H'->aq M H M' H'->cU z g' σ' aA M' H' r v->Q v H'
section
variable{run:List Nat->G->R->G->Prop}
theorem xW(F:iO X.prog X.w X.K X.mg X.base sP k f fd ps (Jk X.K N ps.length run))(hK:z.K=X.K)(hr:cG k X.A)(hg:Gl X x)(hm:X.mg x=some (.ref f))(hk:PySem.W.keepIn X.K (.ref f)=true)(hb:Binds X.K fd ps [])
  (ha:cQ X z (e::es) g rs g1) (aJ:rs.length=ps.length) (hl:bY rs g1=some gs) (nd:((vars 0 rs).map (·.2)).Nodup) (hrun:run ((vars 0 rs).map (·.1)) (dh N.length gs) r gc) (Df:back (vars 0 rs) gc g1=some gO) (ho:cV ((vars 0 rs).map (·.1)) gc r=some r')
  (je:(x==("__debug__":Str))=false) (he:starEach (e::es) X.env=(false,eval e X.env)::starEach es X.env) (iB:(backTo pos (starEach es X.env)).any (·.1)=false) :
  aB X z (.Call (.Name x p) (e::es) [] pos) g r' gO:=by
 obtain⟨t,q,kk⟩:=ha;refine⟨_,xH F hr hg hm hk hb .nil Ml q je he iB,λσ As M H Q s kq=>kk σ As M H _ s λvs H1 aO M1 s1 dB R1=>?_⟩
 have hv:vs.length=rs.length:=R1.length;have ee:=s1.enter (N:=N) R1 hl nd;refine⟨by rw[l4,hv];exact aJ,qh z σ M1 H1 rs,dh N.length gs,gc,_,M1,r,hK,by rw[l4];exact ee,by rw[j9];exact hrun,λv σ' aA M' H' s' st' R'=>?_⟩
 obtain⟨M2,s2,aL,R2⟩:=s1.leave R1 hl nd s' st' R' Df ho;exact kq v H' aO M2 s2 (dB.trans aL) R2
theorem xX{P:Program}{w:World}{K:Frag}{mg:Str->Option Value}{base:Heap}{qual:Str}{st:Stmt}(F:Hs K x qual st f fd)(Sc:bV N ps (aD st))
  (h:∀(bE:Value) (A:Around) (outer:List Env) (s:Shared) (H:Hp) (E:XK),PySem.W.codeIn K bE qual=true->cG k (A.deeper (envOfC qual (aD st) s⁻¹ f bE))->
   ∀(z:Z) (g:G) (r:R) (g':G),z.K=K->run z.bor g r g'->∃fl,dX (eZ sP P w K mg base N qual (aD st) f bE A outer s H E).kZ z (bA st) g fl g'/\(fl=.rt r\/(fl=.nx/\r=.dat .non))) :
  iO P w K mg base sP (k+1) f fd ps (Jk K N ps.length run):=by
 obtain⟨oc,od,kV,doc,pm,an,bE,ct,osl,rfl,lk,bI⟩:=F.ex;refine Mj lk bI Sc (λvs H Q E q=>q.1) λA outer s H vs Q E hr ⟨_,z,g,g',As,M,r,hK,hs,hrun,hQ⟩=>?_
 obtain⟨fl,⟨t,q,kk⟩,hfl⟩:=h bE A outer s H E bI hr z g r g' hK hrun;refine⟨t,q.kZ,kk _ As M H _ hs ?_⟩;rcases hfl with rfl |⟨rfl,rfl⟩
 . exact λv σ' aA M' H' s' st' R'=>hQ v σ' aA M' H' s' st' R'
 . exact λσ' aA M' H' s' st'=>hQ .non σ' aA M' H' s' st' .non
end
inductive Tg where
 |nm (i:Nat) |tp (is:List Nat)
noncomputable def ki:List Nat->List D->G->G
 |i::is,d::ds,g=>ki is ds (g.set i (.dat d))
 | [],_,g=>g
 |_::_,[],g=>g
noncomputable def Tg.ix:Tg->List Nat
 |.nm i=>[i]
 |.tp is=>is
def Tg.set:Tg->D->G->Option G
 |.nm i,d,g=>some (g.set i (.dat d))
 |.tp is,.tup ds,g=>if ds.length=is.length then some (ki is ds g)else none
 |.tp is,.lst ds,g=>if ds.length=is.length then some (ki is ds g)else none
 |.tp _,_,_=>none
def xY(is:List Nat)(σ σ':Sg):Prop:=σ'.length=σ.length/\∀j,j∉is->σ'[j]?=σ[j]?
theorem xY.refl(is:List Nat)(σ:Sg):xY is σ σ:=⟨rfl,λ_ _=>rfl⟩
theorem xY.trans{is:List Nat}{σ σ1 σ2:Sg}(a:xY is σ σ1)(b:xY is σ1 σ2):xY is σ σ2:=⟨b.1.trans a.1,λj h=>(b.2 j h).trans (a.2 j h)⟩
theorem xY.mono(h:∀i∈is,i∈js)(a:xY is σ σ'):xY js σ σ':=⟨a.1,λj hj=>a.2 j λz=>hj (h j z)⟩
def tT(X:Cx)(z:Z)(tg:Expr)(T:Tg):Prop:=∃t,PG X tg t/\∀d g g',T.set d g=some g'->∀v σ As M H (Q:Sg->Hp->Prop),S z g σ As M H->Rep z.K M H d v->(∀σ' aA,S z g' σ' aA M H->xY T.ix σ σ'->Q σ' H)->t v σ H Q
structure nI(X:Cx)(x:Str)(i:Nat):Prop where
 nd:X.N.Nodup
 ix:X.N[i]?=some x
 lc:Loc X.env.scope x
 fn:X.fn x=true\/X.env.scope.names.lookup x=some .local
section
theorem VF(h:nI X x i)(hb:i∉z.bor):tT X z (.Name x pos) (.nm i):=
 ⟨_,iE h.nd h.ix h.lc h.fn,λd g g' e v σ As M H Q s r k=>by
  cases e;obtain⟨aA,s'⟩:=s.fS (i:=i) hb r;exact k _ aA s' ⟨by rw[i4],λj hj=>by rw[eC (λe=>hj (by rw[<- e];exact gN.mpr rfl))]⟩⟩
inductive jO(X:Cx):List Expr->List Nat->Prop
 |nil:jO X [] []
 |cons {x:Str}{p:Pos}{i:Nat}{es:List Expr}{is:List Nat}:nI X x i->jO X es is->jO X (.Name x p::es) (i::is)
theorem jO.plain(h:jO X es is):(assignEach es X.env).length=is.length/\(assignEach es X.env).findIdx? (·.1)=none:=by
 induction h with
 |nil=>exact⟨rfl,rfl⟩
 |cons _ _ ih=>
  refine⟨?_,?_⟩
  . show (assignEach _ X.env).length+1=_;rw[ih.1];rfl
  . show List.findIdx? _ ((false,assign _ X.env)::assignEach _ X.env)=none;rw[List.findIdx?_cons,ih.2];rfl
theorem jO.pgs(h:jO X es is)(hb:∀i∈is,i∉z.bor):∃t,TL X es t/\∀ds vs g σ As M H (Q:Sg->Hp->Prop),ds.length=is.length->S z g σ As M H->aH z.K M H ds vs->(∀σ' aA,S z (ki is ds g) σ' aA M H->xY is σ σ'->Q σ' H)->t vs σ H Q:=by
 induction h with
 |nil=>
  refine⟨_,xE,λds vs g σ As M H Q hl s r k=>?_⟩
  cases r with
  |nil=>exact⟨rfl,k σ As s (xY.refl _ _)⟩
  |cons _ _=>simp at hl
 |@cons x p i es is hn hs ih=>
  obtain⟨t,q,kk⟩:=ih λj hj=>hb j (b0 _ hj)
  refine⟨_,mL (iE hn.nd hn.ix hn.lc hn.fn) q rfl,λds vs g σ As M H Q hl s r k=>?_⟩
  cases r with
  |nil=>simp at hl
  |@cons d ds v vs r rs=>
   obtain⟨aO,s1⟩:=s.fS (i:=i) (hb i dA) r;refine⟨v,vs,rfl,kk ds vs _ _ aO M H Q (by simpa using hl) s1 rs λσ' aA s' a=>k σ' aA s' ?_⟩
   refine xY.trans ⟨by rw[i4],λj hj=>?_⟩ (a.mono λj hj=>b0 _ hj)
   rw[eC (λe=>hj (by rw[<- e];exact dA))]
theorem vN{prog:Program}{w:World}{A:Around}{E:Value->Shared->Prop}{it l:Addr}{xs:Array Value}(ne:l≠it)(n:Nat):∀(i:Nat) (s:Shared) (Q:List Value->Shared->Prop),s.heap.IsListIter it l i->s.heap.IsList l xs->i+n=xs.size->
  (∀h',h'.IsListIter it l xs.size->Heap.SameBut it s.heap h'->Q (xs.toList.drop i) { s with heap:=h'})->wpAny (model prog w) A (draw (.ref it) n) Q E s:=by
 induction n with
 |zero=>
  intro i s Q hit _ hi k;have e:xs.toList.drop i=[]:=List.drop_eq_nil_of_le (by rw[mM];lia)
  have q:=k s.heap (by rw[<- hi];exact hit) (Heap.SameBut.refl ..)
  rw[e]at q;exact dL q
 |succ n ih=>
  intro i s Q hit hl hi k;have yU:i<xs.size:=by lia
  refine aS (wpAny_pyNext_list_item hit hl (x:=xs[i]) (by simp[yU]) λh1 b1 c1=>?_)
  refine aS (mB (ih (i+1) _ _ b1 (hl.extBut c1.extBut ne) ⋯ λh2 b2 c2=>dL ?_))
  have q:=k h2 b2 (c1.trans c2);rw[List.drop_eq_getElem_cons (by rw[mM];exact yU)]at q
  exact q
theorem tU{prog:Program}{w:World}{A:Around}{E:Value->Shared->Prop}{s:Shared}{l:Addr}{xs:Array Value}{Q:List Value->Shared->Prop}(hh:A.handled=none)(hl:s.heap.IsList l xs)
  (k:∀h',Heap.ExtBut s⁻¹ s.heap h'->Q xs.toList { s with heap:=h'}):wpAny (model prog w) A (unpackItems (.ref l) xs.size none) Q E s:=by
 have ne:l≠s⁻¹:=by obtain⟨o,ho,_⟩:=hl;exact i5 (eJ ho)
 unfold unpackItems;refine aS ?_;unfold notIterableAtAll;refine aS (wpAny_specialOf hl.typeIs slot_list_iter.lookup ?_);refine dL ?_;simp only[AB,CF];refine aS (mB (wpAny_pyIter_list hl ?_));refine aS (mB (vN ne xs.size 0 _ _ ⟨_,eD _ rfl,rfl,rfl⟩ (hl.push _) (AU _) λh1 b1 c1=>?_))
 rw[List.drop_zero,fR ⋯];refine aS (mB (wpAny_pyNext_list_end hh b1 ((hl.push _).extBut c1.extBut ne) ⋯ λh2 e2=>?_))
 simp only[Option.isSome_none,AB,CF];exact dL (k h2 λb o nb e=>e2 b o nb (c1.extBut b o nb (bP _ e)))
def ZP(K:Frag)(n:Nat)(t:Mg):TG:=λv σ H Q=>∃a xs,v=.ref a/\(gi K H a xs\/bX K H a xs)/\xs.length=n/\t xs σ H Q
theorem P5{es:List Expr}{k:Nat}{t:Mg}{n:Nat}(hc:X.calm=true)(h:TL X es t)(hn:(assignEach es X.env).length=n)(dj:(assignEach es X.env).findIdx? (·.1)=none):PG X (.Tuple es k pos) (ZP X.K n t):=by
 intro ah s σ H v u Q I r hw;obtain⟨a,xs,e1,hq,hl,hw⟩:=hw;rcases hq with hq |hq
 . exact BJ hc h hn dj ah s σ H v u Q I r ⟨a,xs,e1,hq,hl,hw⟩
 .
  subst e1;cases r;obtain⟨its,rv,pl,hz⟩:=I.list hq;rw[assign_Tuple];refine aS (B0 ?_);unfold unpack;rw[dj,show (assignEach es X.env).length=its.toArray.size by rw[hn,<- hl,rv.length,dC]]
  refine aS (mB (tU (I.ok.hd hc) pl.isList λh' hx=>?_))
  have I1:L2.Inv X ah σ H { s with heap:=h'}:=I.kept (t':=s.toks) λb o e=>hx b o (i5 (eJ e)) e
  exact h ah _ σ H xs _ Q I1 (by simpa using rv) hw
theorem VG(hc:X.calm=true)(hK:z.K=X.K)(h:jO X es is)(hb:∀i∈is,i∉z.bor):tT X z (.Tuple es k pos) (.tp is):=by
 obtain⟨t,q,kk⟩:=h.pgs (z:=z) hb;refine⟨_,P5 (n:=is.length) hc q h.plain.1 h.plain.2,λd g g' e v σ As M H Q s r k=>?_⟩
 cases d with
 |tup ds=>
  have e:(if ds.length=is.length then some (ki is ds g)else none)=some g':=e
  by_cases hl:ds.length=is.length
  .
   rw[fN hl]at e;cases e;cases r with
   |@tup _ a xs ha rr=>exact⟨a,xs,rfl,.inl (hK▸ha.sq),by rw[<- rr.length];exact hl,kk ds xs g σ As M H Q hl s rr k⟩
  . rw[fR hl]at e;cases e
 |lst ds=>
  have e:(if ds.length=is.length then some (ki is ds g)else none)=some g':=e
  by_cases hl:ds.length=is.length
  .
   rw[fN hl]at e;cases e;cases r with
   |@lst _ a xs ha rr=>exact⟨a,xs,rfl,.inr (bX.of ha.2),by rw[<- rr.length];exact hl,kk ds xs g σ As M H Q hl s rr k⟩
  . rw[fR hl]at e;cases e
 |_=>cases e
def Jt(J:It)(items:List D)(K:Frag)(M1:List Addr)(H1:Hp):Prop:=
 ∀M2 H2,aq M1 H1 M2 H2->(∀n d,items[n]?=some d->J.go n H2/\∀x H',J.XZ n H2 x H'->∀(z:Z) g σ As,z.K=K->S z g σ As M2 H2->S z g σ As M2 H'/\aq M2 H2 M2 H'/\Rep K M2 H' d x)/\J.stop items.length H2
def jj(X:Cx)(z:Z)(tg iter:Expr)(g:G)(items:List D)(g1:G):Prop:=
 ∃wi,PI X tg iter wi/\∀σ As M H (R:It->Hp->Prop),S z g σ As M H->(∀J H' aA M',S z g1 σ aA M' H'->aq M H M' H'->Jt J items z.K M' H'->R J H')->wi σ H R
theorem P6(hK:z.K=X.K)(h:aB X z iter g (.dat (.tup l)) g1):jj X z tg iter g l g1:=by
 obtain⟨t,q,k⟩:=h;refine⟨_,BV q,λσ As M H R s kk=>k σ As M H _ s λv H1 aO M1 s1 dB r=>?_⟩
 have r':Rep z.K M1 H1 (.tup l) v:=r;cases r' with
 |@tup _ a xs ha rr=>
  refine⟨a,rfl,⟨xs,hK▸ha.sq⟩,kk _ H1 aO M1 s1 dB λM2 H2 aL=>?_⟩
  have r2:=Rep.stay aL (Rep.tup ha rr);have ha2:TupAt z.K M2 H2 a xs:=by
   rcases ha with ⟨na,hr⟩ |hk
   . exact .inl (aL.rd na hr)
   . exact .inr hk
  have Hv:=rr.stay aL;refine⟨λn d hd=>?_,xs,hK▸ha2.sq,by rw[rr.length];exact d5 _⟩
  obtain⟨x,e1,e2⟩:=Hv.get hd;refine⟨⟨xs,x,hK▸ha2.sq,e1⟩,λy H' hy z' g' σ' aA _ s'=>?_⟩
  obtain⟨rfl,hy⟩:=hy;have:=hy xs (hK▸ha2.sq);rw[e1]at this;cases this;exact⟨s',aq.refl _ _,e2⟩
theorem P7(h:aB X z iter g (.dat (.lst l)) g1):jj X z tg iter g l g1:=by
 obtain⟨t,q,k⟩:=h;refine⟨_,qR q,λσ As M H R s kk=>k σ As M H _ s λv H1 aO M1 s1 dB r=>?_⟩
 have r':Rep z.K M1 H1 (.lst l) v:=r;cases r' with
 |@lst _ a xs ha rr=>
  refine⟨a,rfl,⟨xs,bX.of ha.2⟩,kk _ H1 aO M1 s1 dB λM2 H2 aL=>?_⟩
  have ha2:=(aL _ _ ha.2 ha.1).1;have Hv:=rr.stay aL;refine⟨λn d hd=>?_,xs,bX.of ha2,by rw[rr.length];exact d5 _⟩
  obtain⟨x,e1,e2⟩:=Hv.get hd;refine⟨⟨xs,x,bX.of ha2,e1⟩,λy H' hy z' g' σ' aA _ s'=>?_⟩
  obtain⟨rfl,hy⟩:=hy;have:=hy xs (bX.of ha2);rw[e1]at this;cases this;exact⟨s',aq.refl _ _,e2⟩
theorem P8(hK:z.K=X.K)(h:aB X z iter g (.dat (.fix l)) g1):jj X z tg iter g l g1:=by
 obtain⟨t,q,k⟩:=h;refine⟨_,qR q,λσ As M H R s kk=>k σ As M H _ s λv H1 aO M1 s1 dB r=>?_⟩
 have r':Rep z.K M1 H1 (.fix l) v:=r;cases r' with
 |@fix _ a xs ha rr=>
  refine⟨a,rfl,⟨xs,hK▸ha.sq⟩,kk _ H1 aO M1 s1 dB λM2 H2 aL=>?_⟩
  have ha2:ng z.K M2 H2 a xs:=by
   rcases ha with ⟨na,o,hr⟩ |hk
   . exact .inl ⟨(aL _ _ hr na).2,o,(aL _ _ hr na).1⟩
   . exact .inr hk
  have Hv:=rr.stay aL;refine⟨λn d hd=>?_,xs,hK▸ha2.sq,by rw[rr.length];exact d5 _⟩
  obtain⟨x,e1,e2⟩:=Hv.get hd;refine⟨⟨xs,x,hK▸ha2.sq,e1⟩,λy H' hy z' g' σ' aA _ s'=>?_⟩
  obtain⟨rfl,hy⟩:=hy;have:=hy xs (hK▸ha2.sq);rw[e1]at this;cases this;exact⟨s',aq.refl _ _,e2⟩
theorem Dg{lo:Int}{n:Nat}{K:Frag}{M:List Addr}{H:Hp}:Jt (N2 lo n) (cu lo n) K M H:=λM2 H2 _=>by
 refine⟨λk d hd=>?_,?_⟩
 .
  have hk:k<n:=by have:=(dE.mp hd).1;rw[tR]at this;exact this
  rw[Dd hk]at hd;cases hd;refine⟨hk,λx H' hx z' g' σ' aA _ s'=>?_⟩
  obtain⟨rfl,rfl⟩:=hx;exact⟨s',aq.refl _ _,.int _⟩
 . show n<=(cu lo n).length;rw[tR];exact d5 _
theorem Jl(h:cQ X z [a] g [.dat (.int j)] g1)(hg:Gl X "range")(hm:X.mg "range"=none)(hs:starEach [a] X.env=[(false,eval a X.env)])(h1 : -(2 ^ 62)<=j)(h2:j<2 ^ 62) :
  jj X z tg (.Call (.Name "range" p) [a] [] rp) g (cu 0 j.toNat) g1:=by
 obtain⟨wi,q,k⟩:=zB (p:=p) (rp:=rp) h hg hm hs h1 h2 (tg:=tg);exact⟨wi,q,λσ As M H R s kk=>k σ As M H _ s λH' aA M' s' st=>kk _ H' aA M' s' st Dg⟩
theorem Jm(h:cQ X z [a,b] g [.dat (.int c),.dat (.int j)] g1)(hg:Gl X "range")(hm:X.mg "range"=none)(hs:starEach [a,b] X.env=[(false,eval a X.env),(false,eval b X.env)])(hs2:starEach [b] X.env=[(false,eval b X.env)])
  (h1 : -(2 ^ 62)<=c/\c<2 ^ 62/\-(2 ^ 62)<=j/\j<2 ^ 62):jj X z tg (.Call (.Name "range" p) [a,b] [] rp) g (cu c (j - c).toNat) g1:=by
 obtain⟨wi,q,k⟩:=zC (p:=p) (rp:=rp) h hg hm hs hs2 h1 (tg:=tg);exact⟨wi,q,λσ As M H R s kk=>k σ As M H _ s λH' aA M' s' st=>kk _ H' aA M' s' st Dg⟩
inductive eE(X:Cx)(z:Z)(body:List Stmt)(T:Tg):List D->G->Fl->G->Prop
 |nil {g:G}:eE X z body T [] g .nx g
 |next {d:D}{l:List D}{g g0 g1 g2:G}{f:Fl}:T.set d g=some g0->dX X z body g0 .nx g1->eE X z body T l g1 f g2->eE X z body T (d::l) g f g2
 |cont {d:D}{l:List D}{g g0 g1 g2:G}{f:Fl}:T.set d g=some g0->dX X z body g0 .ct g1->eE X z body T l g1 f g2->eE X z body T (d::l) g f g2
 |brk {d:D}{l:List D}{g g0 g1:G}:T.set d g=some g0->dX X z body g0 .bk g1->eE X z body T (d::l) g .nx g1
 |ret {d:D}{l:List D}{g g0 g1:G}{r:R}:T.set d g=some g0->dX X z body g0 (.rt r) g1->eE X z body T (d::l) g (.rt r) g1
theorem P9(hp:PassesOwn (model X.prog X.w) X.A X.env X.xe)(hc:X.calm=true)(hw:jj X z tg iter g items g1)(ht:tT X z tg T)(hb:eE X z body T items g1 f g')(hs:∀y,foldedSetIterable iter X.env y=pure y) :
  fT X z (.For tg iter body [] pos) g f g':=by
 obtain⟨wi,q,k⟩:=hw;obtain⟨t,qt,kt⟩:=ht;refine⟨_,BW hp hc q qt xT hs,λσ As M H E s kk=>k σ As M H _ s λJ H1 aO M1 s1 dB hJ=>?_⟩
 refine⟨λi m σ2 H2=>i+m=items.length/\∃g2 bu M2,S z g2 σ2 bu M2 H2/\aq M1 H1 M2 H2/\eE X z body T (items.drop i) g2 f g',⟨items.length,by lia,g1,aO,M1,s1,aq.refl _ _,by simpa using hb⟩,?_⟩
 rintro i m σ2 H2 ⟨ZQ,g2,bu,M2,s2,aL,lo⟩;obtain⟨hgo,hstop⟩:=hJ M2 H2 aL;cases e:items[i]? with
 |none=>
  have hi:i=items.length:=by have:=tS.mp e;lia
  subst hi;rw[List.drop_length]at lo;refine .inl ⟨hstop,?_⟩;cases lo;exact kk σ2 bu M2 H2 s2 (dB.trans aL)
 |some d=>
  obtain⟨go,yl⟩:=hgo i d e;rw[drop_cons e]at lo;have hi:i<items.length:=(dE.mp e).1;refine .inr ⟨go,λσ' H'=>∃g3 jZ M3,S z g3 σ' jZ M3 H'/\aq M1 H1 M3 H'/\eE X z body T (items.drop (i+1)) g3 f g',λσ' H' ⟨g3,jZ,M3,w1,w2,w3⟩=>⟨m - 1,by lia,by lia,g3,jZ,M3,w1,w2,w3⟩,λx H' hx=>?_⟩
  obtain⟨s3,gF,rx⟩:=yl x H' hx z g2 σ2 bu rfl s2;have kk':=(kk.trans dB).trans (aL.trans gF);have VH:=aL.trans gF;cases lo with
  |next e0 b h=>
   refine kt d g2 _ e0 x σ2 bu M2 H' _ s3 rx λσ' aA s' _=>?_
   obtain⟨t,q,kb⟩:=b;exact⟨t,q,kb _ aA M2 H' _ s' λσ4 nJ M4 H4 s4 qj=>⟨_,nJ,M4,s4,VH.trans qj,h⟩⟩
  |cont e0 b h=>
   refine kt d g2 _ e0 x σ2 bu M2 H' _ s3 rx λσ' aA s' _=>?_
   obtain⟨t,q,kb⟩:=b;exact⟨t,q,kb _ aA M2 H' _ s' λσ4 nJ M4 H4 s4 qj=>⟨_,nJ,M4,s4,VH.trans qj,h⟩⟩
  |brk e0 b=>
   refine kt d g2 _ e0 x σ2 bu M2 H' _ s3 rx λσ' aA s' _=>?_
   obtain⟨t,q,kb⟩:=b;exact⟨t,q,kb _ aA M2 H' _ s' λσ4 nJ M4 H4 s4 qj=>kk' σ4 nJ M4 H4 s4 qj⟩
  |ret e0 b=>
   refine kt d g2 _ e0 x σ2 bu M2 H' _ s3 rx λσ' aA s' _=>?_
   obtain⟨t,q,kb⟩:=b;exact⟨t,q,kb _ aA M2 H' _ s' λv σ4 nJ M4 H4 s4 qj R=>kk' v σ4 nJ M4 H4 s4 qj R⟩
end
noncomputable def gC(k:Nat)(g:G):G:=g++(List.replicate k .no++[.own []])
def iZ(X:Cx)(z:Z)(ifs:List Expr)(g:G)(b:Bool)(g':G):Prop:=
 ∃t,tH X ifs t/\∀σ As M H (Q:Bool->Hp->Prop),S z g σ As M H->(∀H' aA M',S z g' σ aA M' H'->aq M H M' H'->Q b H')->t σ H Q
theorem Jo:iZ X z [] g true g:=⟨_,mY,λσ As M H Q s k=>k H As M s (aq.refl _ _)⟩
theorem Jp(h:cD X z c g b g'):iZ X z [c] g b g':=let ⟨t,q,k⟩:=h;⟨t,Cq q,k⟩
inductive lO(T:Tg)(last:Nat)(Qa:G->Bool->G->Prop)(TV:G->D->G->Prop):List D->G->G->Prop
 |nil {g:G}:lO T last Qa TV [] g g
 |skip:T.set d g=some g1->Qa g1 false g2->lO T last Qa TV l g2 g'->lO T last Qa TV (d::l) g g'
 |take:T.set d g=some g1->Qa g1 true g2->TV g2 e g3->g3[last]?=some (.own acc)->acc.length<16777216->lO T last Qa TV l (g3.set last (.own (acc++[e]))) g'->lO T last Qa TV (d::l) g g'
section
theorem S.extend(s:S z g σ As M H)(hm:a∈M)(hA:a∉As)(h0:z.H0 a=none)(h:H a=some (.lst xs))(r:aH z.K M H l xs) :
  S z (g++(List.replicate k .no++[.own l])) (σ++(List.replicate k none++[some (.ref a)])) (As++([]++[a])) M H:=by
 have hl:=s.sl.length;refine⟨s.sl.append ((Slots.Yb k).append (.own h r .nil)),?_,λb hb=>?_,λi b l' e1 e2=>?_,s.live,s.keep,s.gW,s.m0,s.bm,λp hp=>?_,s.tab,s.tm,s.tt⟩
 .
  rw[v6];refine vS.mpr ⟨s.nd,fA.mpr ⟨by simp,oI⟩,λx hx y hy e=>?_⟩
  rw[gN.mp hy]at e;exact hA (e▸hx)
 .
  rcases o0.mp hb with q |q
  . exact s.sub b q
  . rw[v6]at q;rw[gN.mp q];exact hm
 .
  rcases xI i g.length with hi |hi
  . rw[dS hi]at e1;rw[dS ⋯]at e2;exact s.own i b l' e1 e2
  .
   rw[d6 hi]at e1;rw[d6 ⋯]at e2;rcases xI (i - g.length) k with hk |hk
   .
    rw[dS (by rw[fI];exact hk)]at e1
    have:=i8 e1;rw[t7]at this;exact absurd this.2 ⋯
   .
    rw[d6 (by rw[fI];lia),fI]at e2
    have e3:i - σ.length - k=0:=by
     rcases Nat.eq_zero_or_pos (i - σ.length - k)with q |q
     . exact q
     . rw[AE (Nat.succ_le_of_lt q)]at e2;cases e2
    rw[e3]at e2;have e4:some (some (V.ref a))=some (some (V.ref b)):=e2;injection e4 with e4;injection e4 with e4;injection e4 with e4;exact .inr (e4▸h0)
 . obtain⟨q1,l',q2⟩:=s.iP p hp;exact⟨by rw[dS (dE.mp q1).1];exact q1,l',by rw[dS (dE.mp q2).1];exact q2⟩
theorem Slots.split{K:Frag}{g1 g2:G}{σ:Sg}{As:List Addr}(q:Slots K M H (g1++g2) σ As):∃σ1 σ2 A1 A2,σ=σ1++σ2/\As=A1++A2/\Slots K M H g1 σ1 A1/\Slots K M H g2 σ2 A2:=by
 induction g1 generalizing σ As with
 |nil=>exact⟨[],_,[],_,rfl,rfl,.nil,q⟩
 |cons o g1 ih=>cases q with
  |no q=>obtain⟨s1,s2,a1,a2,rfl,rfl,h1,h2⟩:=ih q;exact⟨_::s1,s2,a1,a2,rfl,rfl,.no h1,h2⟩
  |dat r q=>obtain⟨s1,s2,a1,a2,rfl,rfl,h1,h2⟩:=ih q;exact⟨_::s1,s2,a1,a2,rfl,rfl,.dat r h1,h2⟩
  |own e r q=>obtain⟨s1,s2,a1,a2,rfl,rfl,h1,h2⟩:=ih q;exact⟨_::s1,s2,_::a1,a2,rfl,rfl,.own e r h1,h2⟩
theorem S.shrink{gb:G}{τ:Sg}{l:List D}{i:Nat}{a:Addr}(s:S z gb (σ++τ) As M H)(hz:∀p∈z.lent,p.1<σ.length)(hi:σ.length<=i)(e1:gb[i]?=some (.own l))(e2:(σ++τ)[i]?=some (some (.ref a))) :
  ∃A1,S z (gb.take σ.length) σ A1 M H/\a∈M/\a∉A1:=by
 have hl:=s.sl.length;rw[gL]at hl;have q:=s.sl;rw[<- List.take_append_drop σ.length gb]at q;obtain⟨σ1,σ2,A1,A2,h1,h2,h3,h4⟩:=q.split;have l1:=h3.length;rw[t9,Nat.min_eq_left ⋯]at l1;obtain⟨rfl,rfl⟩:=List.append_inj h1 l1;subst h2;have hA2:a∈A2:=by
  obtain⟨b,xs,f1,f2,_⟩:=h4.at (i:=i - σ.length) (l:=l) (by rw[List.getElem?_drop,Nat.add_sub_cancel' hi];exact e1)
  rw[d6 hi]at e2;rw[e2]at f1;injection f1 with f1;injection f1 with f1;injection f1 with f1;exact f1▸f2
 have tk:∀(j:Nat) (o:Slot),(gb.take σ.length)[j]?=some o->gb[j]?=some o/\j<σ.length:=λj o e=>by
  have hj:=(dE.mp e).1;rw[t9]at hj;have hj':j<σ.length:=eA hj (Nat.min_le_left _ _);rw[yY hj']at e;exact⟨e,hj'⟩
 refine⟨A1,⟨h3,(vS.mp s.nd).1,λb hb=>s.sub b (AL _ hb),λj b l' c1 c2=>?_,s.live,s.keep,s.gW,s.m0,s.bm,λp hp=>?_,s.tab,s.tm,s.tt⟩,s.sub a (lL _ hA2),λhA=>(vS.mp s.nd).2.2 a hA a hA2 rfl⟩
 . obtain⟨c3,c4⟩:=tk j _ c1;exact s.own j b l' c3 (by rw[dS c4];exact c2)
 . obtain⟨c1,l',c2⟩:=s.iP p hp;have xV:=hz p hp;rw[dS xV]at c1;exact⟨c1,l',by rw[yY xV];exact c2⟩
theorem nL(h:xY is (σ++τ) σ')(hi:∀i∈is,σ.length<=i):∃τ',σ'=σ++τ':=by
 refine⟨σ'.drop σ.length,?_⟩;have e:σ'.take σ.length=σ:=by
  apply List.ext_getElem?;intro j;rcases xI j σ.length with hj |hj
  . rw[yY hj,h.2 j (λz=>Nat.not_lt.mpr (hi j z) hj),dS hj]
  . rw[AE (by rw[t9];exact l6 (Nat.min_le_left _ _) hj),AE hj]
 have:=(List.take_append_drop σ.length σ').symm;rw[e]at this;exact this
end
section
def VJ(X:Cx)(tg:Expr):TG:=λv σ H Q=>∃t,PG X tg t/\t v σ H Q
theorem Dh:PG X tg (VJ X tg):=λah s σ H v u Q I r h=>let ⟨t,q,k⟩:=h;q ah s σ H v u Q I r k
def VL(X:Cx)(ifs:List Expr):TT:=λσ H Q=>∃t,tH X ifs t/\t σ H Q
theorem Di:tH X ifs (VL X ifs):=λah s σ H Q I h=>let ⟨t,q,k⟩:=h;q ah s σ H Q I k
def Jq(X:Cx)(e:Expr):TE:=λσ H Q=>∃t,PE X e t/\t σ H Q
theorem vO:PE X e (Jq X e):=λah s σ H Q I h=>let ⟨t,q,k⟩:=h;q ah s σ H Q I k
theorem nM(hw:jj X z tg iter g items g1)(ht:∀b:Bk,tT (X.blk N' scope b) z tg T)(hT:∀i∈T.ix,g1.length<=i/\i<g1.length+k)
  (hcp:lO T (g1.length+k) (λg b g'=>∀bk:Bk,iZ (X.blk N' scope bk) z ifs g b g') (λg d g'=>∀bk:Bk,aB (X.blk N' scope bk) z fM g (.dat d) g') items (gC k g1) gE) (hacc:gE[g1.length+k]?=some (.own acc)) :
  ∃wi,PI X tg iter wi/\∀σ As M H Q,S z g σ As M H->Kn z (gE.take g1.length) σ M H (.new acc) Q->xN X k wi (λb=>VJ (X.blk N' scope b) tg) (λb=>VL (X.blk N' scope b) ifs) (λD b=>Cu D (Jq (X.blk N' scope b) fM)) σ H Q:=by
 obtain⟨wi,q,kw⟩:=hw;refine⟨wi,q,λσ As M H Q s kq=>kw σ As M H _ s λJ H1 aO M1 s1 dB hJ D hD=>?_⟩
 have hl:g1.length=σ.length:=s1.sl.length;have hz:∀p∈z.lent,p.1<σ.length:=λp hp=>(dE.mp (s1.iP p hp).1).1
 have VM:∀i∈T.ix,σ.length<=i:=λi hi=>by rw[<- hl];exact (hT i hi).1
 have gY:g1.length+k∉T.ix:=λh=>o6 _ (hT _ h).2
 have s1':=s1.aN (xs:=[]) hD;have h0:z.H0 D=none:=s1.bR hD;have nA:D∉aO:=λh=>s1.fresh hD (s1.sub D h)
 have sb:=s1'.extend (k:=k) (l:=[]) dA nA h0 az .nil;have qk:(σ++(List.replicate k none++[some (V.ref D)]))[g1.length+k]?=some (some (V.ref D)):=by
  rw[hl,d6 (sB _ _),i6,d6 (by rw[fI];exact d5 _),fI,BM]
  rfl
 refine⟨λi m σ' H'=>i+m=items.length/\∃gb Ab Mb τ,S z gb σ' Ab Mb H'/\aq M1 H1 Mb H'/\σ'=σ++τ/\σ'[g1.length+k]?=some (some (.ref D))/\lO T (g1.length+k) (λg b g'=>∀bk:Bk,iZ (X.blk N' scope bk) z ifs g b g') (λg d g'=>∀bk:Bk,aB (X.blk N' scope bk) z fM g (.dat d) g') (items.drop i) gb gE,
  ⟨items.length,by lia,_,_,_,_,sb,aq.aN hD,rfl,qk,hcp⟩,?_⟩
 rintro i m σ' H' ⟨ZQ,gb,Ab,Mb,τ,s2,aL,rfl,Yc,cp⟩;obtain⟨hgo,hstop⟩:=hJ Mb H' aL;cases e:items[i]? with
 |none=>
  have hi:i=items.length:=by have:=tS.mp e;lia
  subst hi;rw[List.drop_length]at cp;cases cp;refine .inl ⟨hstop,?_⟩;obtain⟨a,xs,f1,f2,f3,f4⟩:=s2.sl.at hacc;rw[Yc]at f1;injection f1 with f1;injection f1 with f1;injection f1 with f1;subst f1;obtain⟨A1,s3,m3,n3⟩:=s2.shrink hz ⋯ hacc Yc;rw[<- hl]at s3;exact kq _ H' A1 Mb s3 (dB.trans aL) ⟨D,xs,rfl,m3,n3,h0,f3,f4⟩
 |some d=>
  obtain⟨go,yl⟩:=hgo i d e;rw[drop_cons e]at cp;have hi:i<items.length:=(dE.mp e).1;refine .inr ⟨go,λσ' H'=>∃gb Ab Mb τ,S z gb σ' Ab Mb H'/\aq M1 H1 Mb H'/\σ'=σ++τ/\σ'[g1.length+k]?=some (some (.ref D))/\lO T (g1.length+k) (λg b g'=>∀bk:Bk,iZ (X.blk N' scope bk) z ifs g b g') (λg d g'=>∀bk:Bk,aB (X.blk N' scope bk) z fM g (.dat d) g') (items.drop (i+1)) gb gE,
   λMm Mp hN=>⟨m - 1,by lia,by lia,hN⟩,λx H2 hx bk _=>?_⟩
  obtain⟨s3,gF,rx⟩:=yl x H2 hx z gb (σ++τ) Ab rfl s2;obtain⟨t,qt,kt⟩:=ht bk;cases cp with
  |skip e0 hc rest=>
   refine⟨t,qt,kt d gb _ e0 x _ Ab Mb H2 _ s3 rx λσ4 nJ s4 ag=>?_⟩
   obtain⟨τ',rfl⟩:=nL ag VM;obtain⟨t2,q2,k2⟩:=hc bk;refine⟨t2,q2,k2 _ nJ Mb H2 _ s4 λH5 Qc M5 s5 vD=>?_⟩
   refine o9 ⟨_,Qc,M5,τ',s5,(aL.trans gF).trans vD,rfl,?_,rest⟩;rw[ag.2 _ gY];exact Yc
  |take e0 hc he ha hz' rest=>
   refine⟨t,qt,kt d gb _ e0 x _ Ab Mb H2 _ s3 rx λσ4 nJ s4 ag=>?_⟩
   obtain⟨τ',rfl⟩:=nL ag VM;obtain⟨t2,q2,k2⟩:=hc bk;obtain⟨t3,q3,k3⟩:=he bk;have ZR:(σ++τ')[g1.length+k]?=some (some (V.ref D)):=by rw[ag.2 _ gY];exact Yc
   refine⟨t2,q2,k2 _ nJ Mb H2 _ s4 λH5 Qc M5 s5 vD=>j6 ⟨t3,q3,k3 _ Qc M5 H5 _ s5 λv H6 As6 M6 s6 ZS R6=>?_⟩⟩
   obtain⟨a,xs,f1,f2,f3,f4⟩:=s6.sl.at ha;rw[ZR]at f1;injection f1 with f1;injection f1 with f1;injection f1 with f1;subst f1;obtain⟨s7,ZT⟩:=s6.write ha ZR (f4.append (.cons R6 .nil));refine⟨xs,f3,by rw[<- f4.length,l5];exact hz',_,As6,M6,τ',s7,(((aL.trans gF).trans vD).trans ZS).trans ZT,rfl,ZR,rest⟩
theorem Jr(B:aM X.env.scope scope)(hc:X.calm=true)(hN:Names X.N N' scope k)(hw:jj X z tg iter g items g1)(ht:∀b:Bk,tT (X.blk N' scope b) z tg T)(hT:∀i∈T.ix,g1.length<=i/\i<g1.length+k)
  (hcp:lO T (g1.length+k) (λg b g'=>∀bk:Bk,iZ (X.blk N' scope bk) z ifs g b g') (λg d g'=>∀bk:Bk,aB (X.blk N' scope bk) z fM g (.dat d) g') items (gC k g1) gE) (hacc:gE[g1.length+k]?=some (.own acc))
  (hs:∀x,foldedSetIterable iter X.env x=pure x):aB X z (.ListComp fM [⟨tg,iter,ifs,0⟩] scope pos) g (.new acc) (gE.take g1.length):=by
 obtain⟨wi,q,kk⟩:=nM hw ht hT hcp hacc;exact⟨_,xO B hc hN q (λb=>⟨Dh,Di,vO⟩) hs,kk⟩
theorem Js(B:aM X.env.scope scope)(hc:X.calm=true)(hN:Names X.N N' scope k)(hw:jj X z tg iter g items g1)(ht:∀b:Bk,tT (X.blk N' scope b) z tg T)(hT:∀i∈T.ix,g1.length<=i/\i<g1.length+k)
  (hcp:lO T (g1.length+k) (λg b g'=>∀bk:Bk,iZ (X.blk N' scope bk) z ifs g b g') (λg d g'=>∀bk:Bk,aB (X.blk N' scope bk) z fM g (.dat d) g') items (gC k g1) gE) (hacc:gE[g1.length+k]?=some (.own acc))
  (Iq:X.N.Nodup) (hy:X.N[i]?=some y) (hl:X.env.scope.names.lookup y=some .local) (hb:i∉z.bor) (hi:i<(gE.take g1.length).length)
  (hsw:swapsWith (.ListComp fM [⟨tg,iter,ifs,0⟩] scope pos) (some (.Name y py)) eS.line X.env=pure true)
  (hs:∀x,foldedSetIterable iter X.env x=pure x):fT X z (.Assign [.Name y py] (.ListComp fM [⟨tg,iter,ifs,0⟩] scope pos) eS) g .nx ((gE.take g1.length).set i (.own acc)):=by
 obtain⟨wi,q,kk⟩:=nM hw ht hT hcp hacc;refine⟨_,xP B hc hN q (λb=>⟨Dh,Di,vO⟩) Iq hy hl hsw hs,λσ As M H E s kE=>kk σ As M H _ s λv H' aA M' s' st R=>?_⟩
 obtain⟨a,xs,rfl,hm,hA,h0,ha,rr⟩:=R;obtain⟨bu,s2⟩:=s'.rB hb hi hm hA h0 ha rr;exact kE _ bu M' H' s2 st
end
section
theorem aB.run(he:aB X z e g r g1)(I:L2.Inv X ah σ H s)(st:S z g σ As M H)
  (k:∀v u s1 H1 aO M1,L2.Inv X ah σ H1 s1->RelV v u->S z g1 σ aO M1 H1->aq M H M1 H1->cU z g1 σ aO M1 H1 r v->Post u s1):wpAny (model X.prog X.w) X.A (eval e X.env) Post X.xe s:=by
 obtain⟨t,q,kt⟩:=he;exact bQ (q ah s σ H (λv H1=>∃aO M1,S z g1 σ aO M1 H1/\aq M H M1 H1/\cU z g1 σ aO M1 H1 r v) I (kt σ As M H _ st λv H1 aO M1 s1 dB R=>⟨aO,M1,s1,dB,R⟩)) λu s1 ⟨v,H1,I1,r1,aO,M1,q1,q2,q3⟩=>k v u s1 H1 aO M1 I1 r1 q1 q2 q3
theorem lK.run(ho:lK X z f d1 d2 r)(I:L2.Inv X ah σ H s)(st:S z g σ As M H)(p1:Pk z.K M H d1 v1)(p2:Pk z.K M H d2 v2)(r1:RelV v1 u1)(r2:RelV v2 u2)
  (k:∀v u s1 H1 aO M1,L2.Inv X ah σ H1 s1->RelV v u->S z g σ aO M1 H1->aq M H M1 H1->cU z g σ aO M1 H1 r v->Post u s1):wpAny (model X.prog X.w) X.A (f u1 u2) Post X.xe s:=by
 obtain⟨rr,o,ko⟩:=ho;exact bQ (o ah s σ H v1 v2 u1 u2 (λv H1=>∃aO M1,S z g σ aO M1 H1/\aq M H M1 H1/\cU z g σ aO M1 H1 r v) I r1 r2 (ko g σ As M H v1 v2 _ st p1 p2 λv H1 aO M1 s1 dB R=>⟨aO,M1,s1,dB,R⟩)) λu s1 ⟨v,H1,I1,r1,aO,M1,q1,q2,q3⟩=>k v u s1 H1 aO M1 I1 r1 q1 q2 q3
theorem aB.of (h:∀(ah:List (Addr×Obj)) (s:Shared) (σ:Sg) (As M:List Addr) (H:Hp) (Post:Value->Shared->Prop),L2.Inv X ah σ H s->S z g σ As M H->
  (∀v u s1 H1 aO M1,L2.Inv X ah σ H1 s1->RelV v u->S z g1 σ aO M1 H1->aq M H M1 H1->cU z g1 σ aO M1 H1 r v->Post u s1)->wpAny (model X.prog X.w) X.A (eval e X.env) Post X.xe s):aB X z e g r g1:=
 ⟨λσ H Q=>∃As M,S z g σ As M H/\Kn z g1 σ M H r Q,λah s σ H Q I ⟨As,M,st,k⟩=>h ah s σ As M H _ I st λv u s1 H1 aO M1 I1 r1 q1 q2 q3=>⟨v,H1,I1,r1,k v H1 aO M1 q1 q2 q3⟩,λσ As M H Q s k=>⟨As,M,s,k⟩⟩
theorem cD.of (h:∀(ah:List (Addr×Obj)) (s:Shared) (σ:Sg) (As M:List Addr) (H:Hp) (Post:Bool->Shared->Prop),L2.Inv X ah σ H s->S z g σ As M H->
  (∀s1 H1 aO M1,L2.Inv X ah σ H1 s1->S z g1 σ aO M1 H1->aq M H M1 H1->Post b s1)->wpAny (model X.prog X.w) X.A (isTrue e X.env (eval e X.env)) Post X.xe s):cD X z e g b g1:=
 ⟨λσ H Q=>∃As M,S z g σ As M H/\(∀H' aA M',S z g1 σ aA M' H'->aq M H M' H'->Q b H'),λah s σ H Q I ⟨As,M,st,k⟩=>h ah s σ As M H _ I st λs1 H1 aO M1 I1 q1 q2=>⟨H1,I1,k H1 aO M1 q1 q2⟩,λσ As M H Q s k=>⟨As,M,s,k⟩⟩
inductive rG(X:Cx)(z:Z):D->List CmpOp->List Expr->G->Bool->G->Prop
 |last {d1 d2:D}{op:CmpOp}{b:Expr}{g g1:G}{c:Bool}:aB X z b g (.dat d2) g1->lK X z (compareOp op) d1 d2 (.dat (.bl c))->rG X z d1 [op] [b] g c g1
 |stop {d1 d2:D}{op op':CmpOp}{ops:List CmpOp}{b b':Expr}{bs:List Expr}{g g1:G}:aB X z b g (.dat d2) g1->lK X z (compareOp op) d1 d2 (.dat (.bl false))->rG X z d1 (op::op'::ops) (b::b'::bs) g false g1
 |link {d1 d2:D}{op op':CmpOp}{ops:List CmpOp}{b b':Expr}{bs:List Expr}{g g1 g2:G}{c:Bool}:aB X z b g (.dat d2) g1->lK X z (compareOp op) d1 d2 (.dat (.bl true))->rG X z d2 (op'::ops) (b'::bs) g1 c g2->rG X z d1 (op::op'::ops) (b::b'::bs) g c g2
theorem Qd(h:rG X z d1 ops bs g c g'):∀(ah:List (Addr×Obj)) (s:Shared) (σ:Sg) (H:Hp) (As M:List Addr) (Post:Value->Shared->Prop) (v1:V) (u1:Value),L2.Inv X ah σ H s->S z g σ As M H->Rep z.K M H d1 v1->RelV v1 u1->
  (∀s1 H' aA M',L2.Inv X ah σ H' s1->S z g' σ aA M' H'->aq M H M' H'->Post (.bool c) s1)->wpAny (model X.prog X.w) X.A (compareChain pos u1 ops (evalEach bs X.env)) Post X.xe s:=by
 induction h with
 |@last d1 d2 op b g g1 c he ho=>
  intro ah s σ H As M Post v1 u1 I st r rv k;show wpAny _ X.A (compareChain pos u1 [op] [eval b X.env]) _ _ s;refine chain_last (he.run I st λv u s1 H1 aO M1 I1 r1 q1 q2 q3=>ho.run I1 q1 (.of (r.stay q2)) (.of q3) rv r1 λv' u' s2 H2 bu M2 I2 r2 p1 p2 p3=>?_)
  rw[eW p3]at r2;cases r2;exact k s2 H2 bu M2 I2 p1 (q2.trans p2)
 |@stop d1 d2 op op' ops b b' bs g g1 he ho=>
  intro ah s σ H As M Post v1 u1 I st r rv k;show wpAny _ X.A (compareChain pos u1 (op::op'::ops) (eval b X.env::eval b' X.env::evalEach bs X.env)) _ _ s;refine chain_link (he.run I st λv u s1 H1 aO M1 I1 r1 q1 q2 q3=>ho.run I1 q1 (.of (r.stay q2)) (.of q3) rv r1 λv' u' s2 H2 bu M2 I2 r2 p1 p2 p3=>?_)
  rw[eW p3]at r2;cases r2;exact nE (ite_ff (k s2 H2 bu M2 I2 p1 (q2.trans p2)))
 |@link d1 d2 op op' ops b b' bs g g1 g2 c he ho hch ih=>
  intro ah s σ H As M Post v1 u1 I st r rv k;show wpAny _ X.A (compareChain pos u1 (op::op'::ops) (eval b X.env::eval b' X.env::evalEach bs X.env)) _ _ s;refine chain_link (he.run I st λv u s1 H1 aO M1 I1 r1 q1 q2 q3=>ho.run I1 q1 (.of (r.stay q2)) (.of q3) rv r1 λv' u' s2 H2 bu M2 I2 r2 p1 p2 p3=>?_)
  rw[eW p3]at r2;cases r2;exact nE (ite_tt (ih ah s2 σ H2 bu M2 Post v u I2 p1 (Rep.stay p2 q3) r1 λs3 H3 jZ M3 I3 w1 w2=>k s3 H3 jZ M3 I3 w1 ((q2.trans p2).trans w2)))
theorem Ju(h:rG X z d1 ops bs g c g'):∀(ah:List (Addr×Obj)) (s:Shared) (σ:Sg) (H:Hp) (As M:List Addr) (Post:Bool->Shared->Prop) (v1:V) (u1:Value),L2.Inv X ah σ H s->S z g σ As M H->Rep z.K M H d1 v1->RelV v1 u1->
  (∀s1 H' aA M',L2.Inv X ah σ H' s1->S z g' σ aA M' H'->aq M H M' H'->Post c s1)->wpAny (model X.prog X.w) X.A (testChain pos u1 ops (evalEach bs X.env)) Post X.xe s:=by
 induction h with
 |@last d1 d2 op b g g1 c he ho=>
  intro ah s σ H As M Post v1 u1 I st r rv k;show wpAny _ X.A (testChain pos u1 [op] [eval b X.env]) _ _ s;refine test_last (he.run I st λv u s1 H1 aO M1 I1 r1 q1 q2 q3=>ho.run I1 q1 (.of (r.stay q2)) (.of q3) rv r1 λv' u' s2 H2 bu M2 I2 r2 p1 p2 p3=>?_)
  rw[eW p3]at r2;cases r2;exact nE (k s2 H2 bu M2 I2 p1 (q2.trans p2))
 |@stop d1 d2 op op' ops b b' bs g g1 he ho=>
  intro ah s σ H As M Post v1 u1 I st r rv k;show wpAny _ X.A (testChain pos u1 (op::op'::ops) (eval b X.env::eval b' X.env::evalEach bs X.env)) _ _ s;refine test_link (he.run I st λv u s1 H1 aO M1 I1 r1 q1 q2 q3=>ho.run I1 q1 (.of (r.stay q2)) (.of q3) rv r1 λv' u' s2 H2 bu M2 I2 r2 p1 p2 p3=>?_)
  rw[eW p3]at r2;cases r2;exact nE (ite_ff (k s2 H2 bu M2 I2 p1 (q2.trans p2)))
 |@link d1 d2 op op' ops b b' bs g g1 g2 c he ho hch ih=>
  intro ah s σ H As M Post v1 u1 I st r rv k;show wpAny _ X.A (testChain pos u1 (op::op'::ops) (eval b X.env::eval b' X.env::evalEach bs X.env)) _ _ s;refine test_link (he.run I st λv u s1 H1 aO M1 I1 r1 q1 q2 q3=>ho.run I1 q1 (.of (r.stay q2)) (.of q3) rv r1 λv' u' s2 H2 bu M2 I2 r2 p1 p2 p3=>?_)
  rw[eW p3]at r2;cases r2;exact nE (ite_tt (ih ah s2 σ H2 bu M2 Post v u I2 p1 (Rep.stay p2 q3) r1 λs3 H3 jZ M3 I3 w1 w2=>k s3 H3 jZ M3 I3 w1 ((q2.trans p2).trans w2)))
theorem Dj(ha:aB X z a g (.dat d1) g1)(h:rG X z d1 (Jv::Jw::ops) (b1::b2::bs) g1 c g2)(hm:lastMarks (Jv::Jw::ops) (b1::b2::bs)=false):aB X z (.Compare a (Jv::Jw::ops) (b1::b2::bs) pos) g (.dat (.bl c)) g2:=
 aB.of λah s σ As M H Post I st k=>Compare_chain (ha.run I st λv u s1 H1 aO M1 I1 r1 q1 q2 q3=>Qd h ah s1 σ H1 aO M1 Post v u I1 q1 q3 r1 λs2 H2 bu M2 I2 p1 p2=>k (.bl c) (.bool c) s2 H2 bu M2 I2 rfl p1 (q2.trans p2) (.bl c)) hm
theorem Dk(ha:aB X z a g (.dat d1) g1)(h:rG X z d1 (Jv::Jw::ops) (b1::b2::bs) g1 c g2)(hm:lastMarks (Jv::Jw::ops) (b1::b2::bs)=false):cD X z (.Compare a (Jv::Jw::ops) (b1::b2::bs) pos) g c g2:=
 cD.of λah s σ As M H Post I st k=>isTrue_chain (ha.run I st λv u s1 H1 aO M1 I1 r1 q1 q2 q3=>Ju h ah s1 σ H1 aO M1 Post v u I1 q1 q3 r1 λs2 H2 bu M2 I2 p1 p2=>k s2 H2 bu M2 I2 p1 (q2.trans p2)) hm
inductive lP(X:Cx)(z:Z)(c:Expr)(body:List Stmt):Nat->G->Fl->G->Prop
 |done {n:Nat}{g g1:G}:cD X z c g false g1->lP X z c body n g .nx g1
 |next {n:Nat}{g g1 g2 g3:G}{f:Fl}:cD X z c g true g1->dX X z body g1 .nx g2->lP X z c body n g2 f g3->lP X z c body (n+1) g f g3
 |cont {n:Nat}{g g1 g2 g3:G}{f:Fl}:cD X z c g true g1->dX X z body g1 .ct g2->lP X z c body n g2 f g3->lP X z c body (n+1) g f g3
 |brk {n:Nat}{g g1 g2:G}:cD X z c g true g1->dX X z body g1 .bk g2->lP X z c body n g .nx g2
 |ret {n:Nat}{g g1 g2:G}{r:R}:cD X z c g true g1->dX X z body g1 (.rt r) g2->lP X z c body n g (.rt r) g2
def VN(X:Cx)(e:Expr):TT:=λσ H Q=>∃t,PT X e t/\t σ H Q
theorem Qe{e:Expr}:PT X e (VN X e):=λah s σ H Q I h=>let ⟨t,q,k⟩:=h;q ah s σ H Q I k
theorem Dl{ce:Expr}{body:List Stmt}{n:Nat}{f:Fl}{g':G}(hp:PassesOwn (model X.prog X.w) X.A X.env X.xe)(h:lP X z ce body n g f g'):fT X z (.While ce body [] pos) g f g':=by
 refine⟨_,BL hp Qe xT,λσ As M H E s k=>?_⟩
 refine⟨λm σ2 H2=>∃g2 bu M2,S z g2 σ2 bu M2 H2/\aq M H M2 H2/\lP X z ce body m g2 f g',⟨n,g,As,M,s,aq.refl _ _,h⟩,?_⟩
 rintro m σ2 H2 ⟨g2,bu,M2,s2,aL,w⟩;cases w with
 |done hc=>obtain⟨t,q,kt⟩:=hc;exact⟨t,q,kt σ2 bu M2 H2 _ s2 λH3 jZ M3 s3 gF=>o9 (k σ2 jZ M3 H3 s3 (aL.trans gF))⟩
 |@next m' _ g3 g4 _ _ hc hb w'=>
  obtain⟨t,q,kt⟩:=hc;obtain⟨tb,qb,kb⟩:=hb;refine⟨t,q,kt σ2 bu M2 H2 _ s2 λH3 jZ M3 s3 gF=>j6 ⟨λσ' H'=>∃g2 bu M2,S z g2 σ' bu M2 H'/\aq M H M2 H'/\lP X z ce body m' g2 f g',λσ' H' hN=>⟨m',u4 _,hN⟩,tb,qb,kb σ2 jZ M3 H3 _ s3 λσ4 nJ M4 H4 s4 qj=>?_⟩⟩
  exact⟨g4,nJ,M4,s4,(aL.trans gF).trans qj,w'⟩
 |@cont m' _ g3 g4 _ _ hc hb w'=>
  obtain⟨t,q,kt⟩:=hc;obtain⟨tb,qb,kb⟩:=hb;refine⟨t,q,kt σ2 bu M2 H2 _ s2 λH3 jZ M3 s3 gF=>j6 ⟨λσ' H'=>∃g2 bu M2,S z g2 σ' bu M2 H'/\aq M H M2 H'/\lP X z ce body m' g2 f g',λσ' H' hN=>⟨m',u4 _,hN⟩,tb,qb,kb σ2 jZ M3 H3 _ s3 λσ4 nJ M4 H4 s4 qj=>?_⟩⟩
  exact⟨g4,nJ,M4,s4,(aL.trans gF).trans qj,w'⟩
 |brk hc hb=>obtain⟨t,q,kt⟩:=hc;obtain⟨tb,qb,kb⟩:=hb;exact⟨t,q,kt σ2 bu M2 H2 _ s2 λH3 jZ M3 s3 gF=>j6 ⟨λ_ _=>False,λσ' H' hN=>hN.elim,tb,qb,kb σ2 jZ M3 H3 _ s3 λσ4 nJ M4 H4 s4 qj=>k σ4 nJ M4 H4 s4 ((aL.trans gF).trans qj)⟩⟩
 |ret hc hb=>obtain⟨t,q,kt⟩:=hc;obtain⟨tb,qb,kb⟩:=hb;exact⟨t,q,kt σ2 bu M2 H2 _ s2 λH3 jZ M3 s3 gF=>j6 ⟨λ_ _=>False,λσ' H' hN=>hN.elim,tb,qb,kb σ2 jZ M3 H3 _ s3 λv σ4 nJ M4 H4 s4 qj R=>k v σ4 nJ M4 H4 s4 ((aL.trans gF).trans qj) R⟩⟩
noncomputable def Jx:D->Option Bool
 |.bl b=>some b
 |.non=>some false
 |.int i=>some (i != 0)
 |.lst l=>some (!l.isEmpty)
 |.tup l=>some (!l.isEmpty)
 |.fix l=>some (!l.isEmpty)
 |_=>none
end
end Ev
namespace HT
section
theorem iQ{t sl:Addr}{items:Array Value}{vl vu:Value}{lo hi:Option Int}{Q:Value->Shared->Prop}(ht:IsTup s.heap t items)(hs:s.heap.IsSliceOf sl vl vu .none)(pl:IsPart vl lo)(pu:IsPart vu hi)
  (hw:bU items.size 0 lo=0/\bU items.size items.size hi=items.size)
  (h:Q (.ref t) s):wpAny (model prog w) A (getItem (.ref t) (.ref sl)) Q E s:=by
 obtain⟨os,hos,hcs,hds⟩:=id hs;have Vk:s.TypeIs (.ref sl) "slice" :=⟨os,hos,hcs⟩;unfold getItem
 try with_reducible refine mB ?_
 first |refine aS (dL ?_) |skip
 refine aS (wpAny_sequenceKey ht.typeIs ⋯ ?_);refine aS (oQ (name:=Str.ofString "__getitem__") ht.typeIs nK
  (rV nK ht.typeIs entry_tuple_getitem ?_ (args_tuple_getitem _ _)))
 show wpAny _ _ (Builtin.Tuple.tupleItemsOf (.ref t) >>= _) _ _ s;refine aS (tupleItemsOf_ ht ?_);refine aS (Co Vk ?_);rw[fN ⋯];refine aS (fB hs pl pu ?_);have hyes:(((bU items.size 0 lo:Nat):Int)==0&&(1:Int)==1&&(bU items.size items.size hi - bU items.size 0 lo)==items.size)=true:=by rw[hw.1,hw.2];simp
 show wpAny _ _ (if (((bU items.size 0 lo:Nat):Int)==0&&(1:Int)==1&&(bU items.size items.size hi - bU items.size 0 lo)==items.size)=true then _ else _) _ _ s
 rw[fN hyes];refine aS (m:=Builtin.Tuple.tupleIsExact _) (aS (Co ht.typeIs (dL ?_)));rw[fN ⋯];exact aS (wpAny_rule (dL ⟨_,rfl,dL h⟩))
end
end HT
namespace Ev
open L2
def iR{α:Type}(xs:List α)(lo hi:Option Int):List α:=(xs.drop (HT.bU xs.length 0 lo)).take (HT.bU xs.length xs.length hi - HT.bU xs.length 0 lo)
theorem vP{α:Type}{xs:List α}{lo hi:Option Int}(h:HT.bU xs.length 0 lo=0/\HT.bU xs.length xs.length hi=xs.length):iR xs lo hi=xs:=by unfold iR;rw[h.1,h.2,List.drop_zero,Nat.sub_zero,List.take_length]
section
variable{lo hi:Option Expr}
def ZV(K:Frag):V->Option Int->Option Int->Hp->VK->Prop:=λx lo hi H Q=>∃a xs,x=.ref a/\gi K H a xs/\
 ((HT.bU xs.length 0 lo=0/\HT.bU xs.length xs.length hi=xs.length/\Q (.ref a) H)\/(¬ (HT.bU xs.length 0 lo=0/\HT.bU xs.length xs.length hi=xs.length)/\∀p,H p=none->Q (.ref p) (upd H p (.tup (qV xs lo hi)))))
theorem Jy:X6 X (ZV X.K):=by
 intro ah s σ H x v vl vu lo hi sl Q I rx hs pl pu h;obtain⟨a,xs,rfl,hx,h⟩:=h;rcases h with ⟨h1,h2,q⟩ |⟨h1,q⟩
 .
  cases rx;obtain⟨its,r,ht,hz⟩:=I.tuple hx;have aJ:its.toArray.size=xs.length:=by rw[dC];exact r.length.symm
  refine⟨"tuple",_,PyProof.Rows.slot_tuple_getitem.lookup,ht.typeIs,?_⟩;exact HT.iQ ht hs pl pu (by rw[aJ];exact⟨h1,h2⟩) ⟨.ref a,H,I,rfl,q⟩
 . exact Od ah s σ H (.ref a) v vl vu lo hi sl Q I rx hs pl pu ⟨a,xs,rfl,hx,h1,q⟩
def rH(X:Cx)(z:Z)(e:Option Expr)(g:G)(o:Option Int)(g':G):Prop:=
 ∃t,PO X e t/\∀σ As M H (Q:Option Int->Hp->Prop),S z g σ As M H->(∀H' aA M',S z g' σ aA M' H'->aq M H M' H'->Q o H')->t σ H Q
theorem zE:rH X z none g none g:=⟨_,Ig,λσ As M H Q s k=>k H As M s (aq.refl _ _)⟩
theorem zF(h:aB X z e g (.dat (.int i)) g1):rH X z (some e) g (some i) g1:=by
 obtain⟨t,q,k⟩:=h;refine⟨_,Ih q,λσ As M H Q s kk=>k σ As M H _ s λv H' aA M' s' st R=>?_⟩
 have R':Rep z.K M' H' (.int i) v:=R;cases R';exact⟨i,rfl,kk H' aA M' s' st⟩
theorem aH.cut{K:Frag}{M:List Addr}{H:Hp}{ds:List D}{vs:List V}(r:aH K M H ds vs)(l u:Option Int):aH K M H (iR ds l u) (qV vs l u):=by unfold iR qV;rw[r.length];exact aH.take _ (aH.drop _ r)
theorem zG{r:R}{l:List D}{d:D}{i j:Option Int}(hK:z.K=X.K)(h:aB X z a g r g1)(h1:rH X z lo g1 i g2)(h2:rH X z hi g2 j g3)(hp:pk r g3=some (.lst l)):aB X z (.Subscript a (.Slice lo hi none p2) pos) g (.new (iR l i j)) g3:=by
 obtain⟨t,q,k⟩:=h;obtain⟨t1,q1,k1⟩:=h1;obtain⟨t2,q2,k2⟩:=h2;refine⟨_,mW xM q q1 q2,λσ As M H Q s kk=>k σ As M H _ s λv H1 aO M1 s1 dB R=>k1 σ aO M1 H1 _ s1 λH2 bu M2 s2 aL=>k2 σ bu M2 H2 _ s2 λH3 jZ M3 s3 gF=>?_⟩
 obtain⟨b,xs,rfl,e1,e2⟩:=(s3.pk (aL.trans gF) R hp).list;refine⟨b,xs,rfl,bX.of e1,λp hp=>?_⟩
 exact kk _ _ jZ (p::M3) (s3.aN hp) (((dB.trans aL).trans gF).trans (aq.aN hp)) ⟨p,_,rfl,dA,λhA=>s3.fresh hp (s3.sub p hA),s3.bR hp,az,(e2.cut i j).stay (aq.aN hp)⟩
theorem zH(hK:z.K=X.K)(h:aB X z a g (.dat (.fix l)) g1)(h1:rH X z lo g1 i g2)(h2:rH X z hi g2 j g3):aB X z (.Subscript a (.Slice lo hi none p2) pos) g (.new (iR l i j)) g3:=by
 obtain⟨t,q,k⟩:=h;obtain⟨t1,q1,k1⟩:=h1;obtain⟨t2,q2,k2⟩:=h2;refine⟨_,mW xM q q1 q2,λσ As M H Q s kk=>k σ As M H _ s λv H1 aO M1 s1 dB R=>k1 σ aO M1 H1 _ s1 λH2 bu M2 s2 aL=>k2 σ bu M2 H2 _ s2 λH3 jZ M3 s3 gF=>?_⟩
 have R':Rep z.K M3 H3 (.fix l) v:=Rep.stay (aL.trans gF) R;cases R' with
 |@fix _ b xs e1 e2=>
  refine⟨b,xs,rfl,hK▸e1.sq,λp hp=>?_⟩
  exact kk _ _ jZ (p::M3) (s3.aN hp) (((dB.trans aL).trans gF).trans (aq.aN hp)) ⟨p,_,rfl,dA,λhA=>s3.fresh hp (s3.sub p hA),s3.bR hp,az,(e2.cut i j).stay (aq.aN hp)⟩
theorem zI(hK:z.K=X.K)(h:aB X z a g (.dat (.tup l)) g1)(h1:rH X z lo g1 i g2)(h2:rH X z hi g2 j g3):aB X z (.Subscript a (.Slice lo hi none p2) pos) g (.dat (.tup (iR l i j))) g3:=by
 obtain⟨t,q,k⟩:=h;obtain⟨t1,q1,k1⟩:=h1;obtain⟨t2,q2,k2⟩:=h2;refine⟨_,mW Jy q q1 q2,λσ As M H Q s kk=>k σ As M H _ s λv H1 aO M1 s1 dB R=>k1 σ aO M1 H1 _ s1 λH2 bu M2 s2 aL=>k2 σ bu M2 H2 _ s2 λH3 jZ M3 s3 gF=>?_⟩
 have R':Rep z.K M3 H3 (.tup l) v:=Rep.stay (aL.trans gF) R;cases R' with
 |@tup _ b xs e1 e2=>
  refine⟨b,xs,rfl,hK▸e1.sq,?_⟩;by_cases hw:HT.bU xs.length 0 i=0/\HT.bU xs.length xs.length j=xs.length
  .
   refine .inl ⟨hw.1,hw.2,kk _ _ jZ M3 s3 ((dB.trans aL).trans gF) ?_⟩;have e:iR l i j=l:=vP (by rw[e2.length];exact hw)
   rw[e];exact .tup e1 e2
  . exact .inr ⟨hw,λp hp=>kk _ _ jZ M3 (s3.laid hp) (((dB.trans aL).trans gF).trans (aq.laid hp)) (.tup (.inl ⟨s3.fresh hp,.inl az⟩) ((e2.cut i j).stay (aq.laid hp)))⟩
theorem Dm(hK:z.K=X.K)(h:aB X z e g r g1)(hp:pk r g1=some d)(hb:Jx d=some b)(he:∀whole,isTrue e X.env whole=(do let v <- whole;standAt e.pos;holding [v] (truthy v))):cD X z e g b g1:=by
 obtain⟨t,q,k⟩:=h;refine⟨_,BZ q he,λσ As M H Q s kk=>k σ As M H _ s λv H1 aO M1 s1 dB R=>⟨b,?_,kk H1 aO M1 s1 dB⟩⟩
 have p:=s1.pk (aq.refl _ _) R hp;cases d with
 |non=>rw[p.non];cases hb;rfl
 |bl c=>rw[p.bl];cases hb;rfl
 |int i=>rw[p.int];cases hb;rfl
 |str x=>cases hb
 |emp=>cases hb
 |lq _=>cases hb
 |lst l=>obtain⟨a,xs,rfl,e1,e2⟩:=p.list;cases hb;refine .inl ⟨xs,bX.of e1,?_⟩;cases e2 <;> rfl
 |tup l=>obtain⟨a,xs,rfl,e1,e2⟩:=p.tup;cases hb;refine .inr (.inl ⟨xs,hK▸e1.sq,?_⟩);cases e2 <;> rfl
 |fix l=>obtain⟨a,xs,rfl,e1,e2⟩:=p.fix;cases hb;refine .inl ⟨xs,hK▸e1.sq,?_⟩;cases e2 <;> rfl
end
section
theorem Qf(I:L2.Inv X ah σ H s)(p:Pk X.K M H d v)(r:RelV v u):∃Hh,PySem.W.KitX X.K u (Bh d) Hh/\Hh s.heap/\u≠.builtin "__main__.__loader__#opaque" :=by
 cases d with
 |non=>have q:=p.non;subst q;cases r;exact⟨_,PySem.W.kitx_none,True.intro,λz=>nomatch z⟩
 |bl y=>have q:=p.bl;subst q;cases r;exact⟨_,PySem.W.kitx_bool,True.intro,λz=>nomatch z⟩
 |int i=>have q:=p.int;subst q;obtain⟨t,rfl⟩:=r;exact⟨_,PySem.W.kitx_int,True.intro,λz=>nomatch z⟩
 |str y=>have q:=p.str;subst q;obtain⟨t,rfl⟩:=r;exact⟨_,PySem.W.kitx_str,True.intro,λz=>nomatch z⟩
 |tup l=>obtain⟨a,xs,rfl,ha,_⟩:=p.tup;cases r;obtain⟨its,_,⟨o,h1,h2,_⟩,_⟩:=I.tuple ha.sq;exact⟨_,PySem.W.kitx_tuple,⟨o,h1,h2⟩,λz=>nomatch z⟩
 |lst l=>obtain⟨a,xs,rfl,ha,_⟩:=p.list;cases r;obtain⟨its,_,pl,_⟩:=I.list (bX.of ha);obtain⟨o,h1,h2,_⟩:=pl.isList;exact⟨_,BD,⟨o,h1,h2⟩,λz=>nomatch z⟩
 |fix l=>obtain⟨a,xs,rfl,ha,_⟩:=p.fix;cases r;obtain⟨its,_,pl,_⟩:=I.list ha.sq;obtain⟨o,h1,h2,_⟩:=pl.isList;exact⟨_,BD,⟨o,h1,h2⟩,λz=>nomatch z⟩
 |emp=>
  cases p with
  |of q=>
   cases q with
   |emp _ ha=>cases r;obtain⟨_,_,vs,_,o,es,ep,h1,h2,_⟩:=I.hok _ _ ha;exact⟨_,PySem.W.kitx_dict,⟨o,h1,h2.1⟩,λz=>nomatch z⟩
 |lq C=>
  cases p with
  |of q=>
   cases q with
   |lq k _ ha=>cases r;obtain⟨⟨o,h1,h2,h3,h4⟩,_⟩:=I.hok _ _ ha;exact⟨_,tQ k,⟨o,h1,h2,h3,by rw[h4];trivial⟩,λz=>nomatch z⟩
theorem xZ:∀{ns:List String}{us:List Value},Vals (ns.map V.ty) us->us=ns.map Value.type
 | [],_,r=>by rw[List.map_nil]at r;cases r;rfl
 |n::ns,_,r=>by
  rw[List.map_cons]at r;cases r with
  |cons r1 r2=>cases r1;rw[xZ r2];rfl
theorem zJ:eV X (.builtin "isinstance") (λxs H Q=>∃(x:V) (p:Addr) (ns:List String) (M:List Addr) (d:D) (b:Bool),xs=[x,.ref p]/\Pk X.K M H d x/\gi X.K H p (ns.map V.ty)/\PySem.W.kitAny X.K (Bh d) (ns.map Value.type)=some b/\Q (.bl b) H):=by intro ah s σ H xs us Q I r h;obtain⟨x,p,ns,M,d,b,rfl,pk,hp,e,q⟩:=h;obtain⟨u,w',rfl,r1,r2⟩:=vals2 r;cases r2;obtain⟨Hh,Zk,hH,hx⟩:=Qf I pk r1;obtain⟨its,rv,⟨o,h1,h2,n,h3⟩,_⟩:=I.tuple hp;rw[xZ rv]at h3;obtain⟨c,dd,dt,sl⟩:=o;have h2':c=.type "tuple" :=h2;have h3':dt=.seq (ns.map Value.type).toArray n:=h3;subst h2' h3';exact PySem.W.kia_tup Zk I.lT hH h1 e hx λtk=>⟨.bl b,H,I.tok tk,rfl,q⟩
structure ZW(X:Cx)(T:Str)(n:String):Prop where
 gl:Gl X T
 mg:X.mg T=none
 bt:bootBuiltins T=some (.type n)
 nn:T≠ "__name__"
 db:(T==("__debug__":Str))=false
inductive nO(X:Cx):List Expr->List String->Prop
 |nil:nO X [] []
 |cons {T:Str}{n:String}{p:Pos}{es:List Expr}{ns:List String}:ZW X T n->nO X es ns->nO X (.Name T p::es) (n::ns)
theorem nO.pa(h:nO X es ns):∃t,PA X es t/\∀σ H (Q:List V->Hp->Prop),Q (ns.map V.ty) H->t σ H Q:=by
 induction h with
 |nil=>exact⟨_,dR,λσ H Q q=>q⟩
 |@cons T n p es ns h _ ih=>obtain⟨t,q,k⟩:=ih;have pT:PE X (.Name T p) (tC (.ty n)):=qP h.gl h.mg h.bt rfl h.nn h.db;exact⟨_,bC pT q rfl,λσ H Q hq=>k σ H _ hq⟩
theorem Jz(hK:z.K=X.K)(h:aB X z a g r1 g1)(hp:pk r1 g1=some d)(ht:nO X es ns)(hl:ns.length<=16777216)(he:∀M H v,Pk X.K M H d v->PySem.W.kitAny X.K (Bh d) (ns.map Value.type)=some b)
  (hg:Gl X "isinstance") (hm:X.mg "isinstance"=none) (hv:bootBuiltins "isinstance"=some (.builtin "isinstance"))
  (hs:starEach [a,.Tuple es k pT] X.env=(false,eval a X.env)::starEach [.Tuple es k pT] X.env):aB X z (.Call (.Name "isinstance" p) [a,.Tuple es k pT] [] pos) g (.dat (.bl b)) g1:=by
 obtain⟨t,q,kk⟩:=h;obtain⟨tt,qt,kt⟩:=ht.pa;refine⟨_,jG zJ hg hm hv (bC q (bC (Cb qt) dR) hs) ⋯ ⋯ hs,λσ As M H Q s kq=>kk σ As M H _ s λv H' aA M' s' st R=>kt σ H' _ ⟨by rw[eR];exact nj hl,λa ha=>?_⟩⟩
 have s2:=s'.laid (o:=.tup (ns.map V.ty)) ha;have pp:=s'.pk (aq.refl _ _) R hp;refine⟨v,a,ns,M',d,b,rfl,?_,.inl (.inl az),he _ _ _ (hK▸pp),kq _ _ aA M' s2 (st.trans (aq.laid ha)) (.bl b)⟩;rw[<- hK];cases pp with
 |of r=>exact .of (r.stay (aq.laid ha))
 |lst e1 e2=>exact .lst (by rw[au (aG e1 ha)];exact e1) (e2.stay (aq.laid ha))
theorem zK(hN:X.N[i]?=some x)(hv:gR X.env.scope x)(hd:(x==("__debug__":Str))=false)(bI:(x==("__classdict__":Str))=false)(hg:g[i]?=some (.own l0))(h:cQ X z [e] g [.dat (.lst m)] g1)(vn:g1[i]?=some (.own l))(hl:l.length+m.length<=16777216)
  (hbase:attributeBase (.Name x pn) "extend" X.env (eval (.Name x pn) X.env)=eval (.Name x pn) X.env)
  (hfew:((backTo aU (starEach [e] X.env)).all (λx=>!x.1)&&(backToKw aU (keywordEach [] X.env)).all (λx=>x.1.isSome)
   && decide ([e].length+([]:List Keyword).length+(if ([]:List Keyword).isEmpty then 0 else 1)<30))=true)
  (hline:(bH.endLine==aU.line)=true) (hs:starEach [e] X.env=(false,eval e X.env)::starEach [] X.env):aB X z (.Call (.Attribute (.Name x pn) "extend" bH) [e] [] aU) g (.dat .non) (g1.set i (.own (l++m))):=by
 obtain⟨t,q,k⟩:=h;refine⟨_,tE u7 PySem.F.slot_list_extend PySem.F.type_list_extend zh (cg hN hv hd bI) q hbase hfew hline hs rfl,λσ As M H Q s kk=>?_⟩
 obtain⟨a,xs,e1,e2,e3,e4⟩:=s.sl.at hg;refine⟨.ref a,e1,.inl ⟨rfl,xs,bX.of e3⟩,k σ As M H _ s λvs H' aA M' s' st R=>?_⟩
 obtain⟨b,ys,f1,f2,f3,f4⟩:=s'.sl.at vn;rw[e1]at f1;injection f1 with f1;injection f1 with f1;injection f1 with f1;subst f1;cases R with
 |dat r R=>
  cases R;cases r with
  |@lst _ c zs hc rr=>
   refine⟨a,c,ys,zs,rfl,rfl,f3,hc.2,by rw[<- f4.length,<- rr.length,l5];exact hl,?_⟩
   obtain⟨s2,aL⟩:=s'.write vn e1 (f4.append rr);exact kk _ _ aA M' s2 (st.trans aL) .non
end
noncomputable def ins(a:Int):List Int->List Int
 | []=>[a]
 |b::l=>if a<=b then a::b::l else b::ins a l
def bw:List Int->List Int
 | []=>[]
 |a::l=>ins a (bw l)
theorem nP(a:Int):∀l:List Int,(ins a l).Perm (a::l)
 | []=>x5 _
 |b::l=>by
  unfold ins;split
  . exact x5 _
  . exact ((nP a l).cons b).trans (List.Perm.swap a b l)
theorem bJ:∀l:List Int,(bw l).Perm l
 | []=>x5 _
 |a::l=>(nP a _).trans ((bJ l).cons a)
theorem nQ(a:Int):∀{l:List Int},l.Pairwise (· <= ·)->(ins a l).Pairwise (· <= ·)
 | [],_=>List.pairwise_singleton _ _
 |b::l,h=>by
  obtain⟨h1,h2⟩:=nS.mp h;unfold ins;split
  .
   rename_i hab;refine nS.mpr ⟨λx hx=>?_,h⟩
   rcases d0.mp hx with rfl |hx
   . exact hab
   . exact Int.le_trans hab (h1 x hx)
  .
   rename_i hab;refine nS.mpr ⟨λx hx=>?_,nQ a h2⟩
   rcases d0.mp ((nP a l).mem_iff.mp hx)with rfl |hx
   . lia
   . exact h1 x hx
theorem fU:∀l:List Int,(bw l).Pairwise (· <= ·)
 | []=>List.Pairwise.nil
 |a::l=>nQ a (fU l)
theorem fV(hp:m.Perm l)(hs:m.Pairwise (· <= ·)):m=bw l:=
 (hp.trans (bJ l).symm).eq_of_pairwise (λx y _ _ h1 h2=>Int.le_antisymm h1 h2) hs (fU l)
section
theorem e9(hl:IsTup s.heap l vs.toArray)
  (h:Q vs { s with heap:=(s.heap.push (seqObj "list" #[] 0)).update s⁻¹ (Obj.mapSeq (· ++ vs.toArray))}) (jy:vs.length<=sizeLine) :
  wpAny (model prog w) A (collect (.ref l)) Q E s:=by
 obtain⟨o,ho,hc,n,hd⟩:=id hl;unfold collect;refine aS (wpAny_runValue (codeAny_builtin entry_proto_collect' ?_));show wpAny _ _ (do again (.builtin "list.__iadd__" ⟨[<- newList [],.ref l],[]⟩)) _ _ s
 refine aS (A4 (dL ⟨Code.quiet_builtin _ (by decide +kernel),codeAny_builtin entry_list_iadd' ?_⟩))
 show wpAny _ _ (Builtin.List.listExtendWith (.ref s⁻¹) (.ref l) (.ref s⁻¹)) _ _ { s with heap:=s.heap.push (seqObj "list" #[] 0)};unfold Builtin.List.listExtendWith;have ho':(s.heap.push (seqObj "list" #[] 0)).get? l=some o:=bP _ ho;refine aS (Co (T:= "tuple") ⟨o,ho',hc⟩ ?_);have ht:(Value.type "tuple" == Value.type "tuple")=true:=by rfl
 rw[fN (by rw[ht];simp)]
 refine aS (listItems_at ho' hd ?_);refine aS (listItems_at (xs:=#[]) (n:=0) (eD _ rfl) rfl ?_);rw[fR ⋯];refine aS (listUpdate_at (xs:=#[]) (n:=0) (eD _ rfl) rfl ?_ (wE _) (by show (#[]++vs.toArray).size<=sizeLine+1;simp only[Array.size_append,dC,AW];lia))
 refine dL ?_;show wpAny (model prog w) A (do
   let o <- load s⁻¹
   match o.data with
   |.seq xs _=>pure xs.toList
   |_=>unsupported "internal:collect") Q E { s with heap:=(s.heap.push (seqObj "list" #[] 0)).update s⁻¹ (Obj.mapSeq (· ++ vs.toArray))}
 refine aS (wpAny_load (get?_update_seq (eD _ rfl) _) ?_);show wpAny _ _ (pure ((#[]:Array Value)++vs.toArray).toList) Q E _;rw[show ((#[]:Array Value)++vs.toArray).toList=vs by simp]
 exact dL h
theorem rJ(hl:IsTup s.heap l vs.toArray)(hI:IntsAre vs ns)(h64:vs.length<64)
  (h:∀(out:Array Value) (ns':List Int),IntsAre out.toList ns'->ns'.Perm ns->ns'.Pairwise (· <= ·)->Q (.ref (s⁻¹+1)) { s with heap:=sortedAll s.heap vs out}) :
  wpAny (model prog w) A (call (.builtin "sorted") [.ref l]) Q E s:=by
 refine Calls.call_function_entry kind_sorted plain_sorted entry_sorted (args_sorted1 _) ?_;unfold Builtin.«sorted»;refine aS (m:=checkCount "sorted" 1 1 _) (dL ?_);refine aS (e9 hl ?_ (by rw[l5];lia))
 refine aS (A4 ?_);have jy:((s.heap.push (seqObj "list" #[] 0)).update s⁻¹ (Obj.mapSeq (· ++ vs.toArray))).objs.size=s⁻¹+1:=by rw[BQ,size_push']
 have XT:(((s.heap.push (seqObj "list" #[] 0)).update s⁻¹ (Obj.mapSeq (· ++ vs.toArray))).push (seqObj "list" vs.toArray 0)).get? (s⁻¹+1)=some (seqObj "list" vs.toArray 0):=by rw[<- jy];exact eD _ rfl
 show wpAny _ _ _ _ _ { s with heap:=((s.heap.push (seqObj "list" #[] 0)).update s⁻¹ (Obj.mapSeq (· ++ vs.toArray))).push (seqObj "list" vs.toArray 0)};rw[jy];refine aS (mB (rV slot_list_sort ⟨_,XT,rfl⟩ entry_list_sort (list_sort_tree XT hI h64 λout ns' a1 a2 a3=>⟨_,rfl,?_⟩) (args_list_sort _)))
 exact dL ⟨_,rfl,h out ns' a1 a2 a3⟩
end
section
theorem tV:eV X (.builtin "sorted") (λxs H Q=>∃p ns,xs=[.ref p]/\(bX X.K H p (ns.map V.int)\/gi X.K H p (ns.map V.int))/\ns.length<64/\∀q,H q=none->Q (.ref q) (upd H q (.lst ((bw ns).map V.int)))):=by
 intro ah s σ H xs us Q I r h;obtain⟨p,ns,rfl,hq,hl,q⟩:=h;obtain⟨u,rfl,rx⟩:=vals1 r;cases rx;have fin:∀(vs:List Value) (out:Array Value) (ns':List Int),IntsAre out.toList ns'->ns'.Perm ns->ns'.Pairwise (· <= ·)->EP X ah σ Q (.ref (s⁻¹+1)) { s with heap:=sortedAll s.heap vs out}:=λvs out ns' a1 a2 a3=>by
  have e:=fV a2 a3;subst e;obtain⟨ep,he⟩:=sortedAll_at s.heap vs out;have aJ:(bw ns).length=ns.length:=(bJ ns).length_eq;refine⟨.ref (s⁻¹+1),_,I.laid (t':=s.toks) (o:=.lst ((bw ns).map V.int)) (λb o e=>sortedAll_old e) (AC _) ?_,rfl,q _ (I.hok.fresh (AC _))⟩
  refine⟨by rw[eR,aJ,l5];lia,out.toList,ep,iG a1,?_⟩
  rw[he]
 rcases hq with hq |hq
 . obtain⟨its,r',pl,hz⟩:=I.list hq;have aJ:=r'.length;rw[eR]at aJ;exact sorted_ints pl.isList (intsAre_of r') ⋯ λout ns' a1 a2 a3=>fin its out ns' a1 a2 a3
 . obtain⟨its,r',pl,hz⟩:=I.tuple hq;have aJ:=r'.length;rw[eR]at aJ;exact rJ pl (intsAre_of r') ⋯ λout ns' a1 a2 a3=>fin its out ns' a1 a2 a3
theorem kj{K:Frag}{M:List Addr}{H:Hp}:∀ns:List Int,aH K M H (ns.map D.int) (ns.map V.int)
 | []=>.nil
 |n::ns=>.cons (.int n) (kj ns)
theorem zL(hK:z.K=X.K)(h:dF d=some l)(hi:bL l=some ns)(hl:ns.length<64):CallD X z (.builtin "sorted") [d] (.new ((bw ns).map .int)):=by
 refine⟨_,tV,λg σ As M H vs Q s p k=>?_⟩
 obtain⟨v,rfl,pv⟩:=p.one;have fin:∀q,H q=none->Q (.ref q) (upd H q (.lst ((bw ns).map V.int))):=λq hq=>k _ _ As (q::M) (s.aN hq) (aq.aN hq) ⟨q,_,rfl,dA,λhA=>s.fresh hq (s.sub q hA),s.bR hq,az,kj _⟩
 cases d with
 |lst m=>cases h;obtain⟨a,xs,rfl,e1,e2⟩:=pv.list;have:=bz e2 hi;subst this;exact⟨a,ns,rfl,.inl (bX.of e1),hl,fin⟩
 |tup m=>cases h;obtain⟨a,xs,rfl,e1,e2⟩:=pv.tup;have:=bz e2 hi;subst this;exact⟨a,ns,rfl,.inr (hK▸e1.sq),hl,fin⟩
 |fix m=>cases h;obtain⟨a,xs,rfl,e1,e2⟩:=pv.fix;have:=bz e2 hi;subst this;exact⟨a,ns,rfl,.inl (hK▸e1.sq),hl,fin⟩
 |_=>cases h
end
section
def VP(X:Cx)(z:Z)(e:Expr)(g:G)(lo hi:Int)(g1:G):Prop:=
 ∀(ah:List (Addr×Obj)) (s:Shared) (σ:Sg) (As M:List Addr) (H:Hp) (Post:Value->Shared->Prop),L2.Inv X ah σ H s->S z g σ As M H->
  (∀r s1 H1 aO M1 t u v,L2.Inv X ah σ H1 s1->S z g1 σ aO M1 H1->aq M H M1 H1->IsRange s1.heap r lo hi 1 t u v->Post (.ref r) s1)->wpAny (model X.prog X.w) X.A (eval e X.env) Post X.xe s
theorem cQ.run(ha:cQ X z es g rs g1)(I:L2.Inv X ah σ H s)(st:S z g σ As M H)
  (k:∀vs us s1 H1 aO M1,L2.Inv X ah σ H1 s1->Vals vs us->S z g1 σ aO M1 H1->aq M H M1 H1->jh z σ M1 H1 rs vs->Post us s1):wpAny (model X.prog X.w) X.A (spliced (backTo pos (starEach es X.env))) Post X.xe s:=by
 obtain⟨t,q,kt⟩:=ha;exact bQ (q pos ah s σ H (λvs H1=>∃aO M1,S z g1 σ aO M1 H1/\aq M H M1 H1/\jh z σ M1 H1 rs vs) I (kt σ As M H _ st λvs H1 aO M1 s1 dB R=>⟨aO,M1,s1,dB,R⟩)) λus s1 ⟨vs,H1,I1,r1,aO,M1,q1,q2,q3⟩=>k vs us s1 H1 aO M1 I1 r1 q1 q2 q3
theorem ZX(h:cQ X z [a] g [.dat (.int j)] g1)(hg:Gl X "range")(hm:X.mg "range"=none)(hs:starEach [a] X.env=[(false,eval a X.env)]):VP X z (.Call (.Name "range" p) [a] [] rp) g 0 j g1:=by
 intro ah s σ As M H Post I st k;refine Call_ (fO I hg hm boot_range (oC (h.run I st λvs us s1 H1 aO M1 I1 r1 q1 q2 q3=>?_) hs rfl))
 cases q3 with
 |dat r R=>
  cases R;cases r;cases r1 with
  |cons r rr=>cases rr;obtain⟨t,rfl⟩:=r;exact call_range_1 (k _ _ H1 aO M1 _ _ _ (I1.kept λb o e=>bP _ e) q1 q2 (IsRange.new ..))
noncomputable def vQ(lo:Int)(n:Nat):List V:=(List.range n).map λ(k:Nat)=>V.int (lo+(k:Int))
theorem zM{lo:Int}{n:Nat}{acc:Array Value}(h:ItemsOf (λi v=>∃t,v=Value.int (lo+(i:Int) * 1) t) acc n):Vals (vQ lo n) acc.toList:=by
 have key:∀(m:Nat) (l:List Value) (o:Nat),l.length=m->(∀j v,l[j]?=some v->∃t,v=Value.int (lo+((o+j:Nat):Int)) t)->Vals ((List.range' o m).map λ(k:Nat)=>V.int (lo+(k:Int))) l:=by
  intro m
  induction m with
  |zero=>intro l o hl _;cases l with
   |nil=>exact .nil
   |cons _ _=>simp at hl
  |succ m ih=>
   intro l o hl hv;cases l with
   |nil=>simp at hl
   |cons v l=>
    rw[List.range'_succ,List.map_cons];obtain⟨t,e⟩:=hv 0 v rfl;refine .cons ⟨t,by rw[e];rfl⟩ (ih l (o+1) (by simpa using hl) λj w hw=>?_)
    obtain⟨t',e'⟩:=hv (j+1) w (by simpa using hw)
    exact⟨t',by rw[e',show o+(j+1)=o+1+j by lia]⟩
 unfold vQ;rw[BU];refine key n acc.toList 0 (by rw[mM];exact h.1) λj v hv=>?_
 obtain⟨t,e⟩:=h.2 j v (by rw[<- Array.getElem?_toList];exact hv)
 exact⟨t,by rw[e,AU,Int.mul_one]⟩
theorem zO{K:Frag}{M:List Addr}{H:Hp}(lo:Int)(n:Nat):aH K M H (cu lo n) (vQ lo n):=by
 unfold cu vQ
 induction List.range n with
 |nil=>exact .nil
 |cons k l ih=>exact .cons (.int _) ih
theorem Dn{e:Expr}{lo hi:Int}(h:VP X z e g lo hi g1)(hc:X.calm=true)(hg:Gl X "list")(hm:X.mg "list"=none)(hs:starEach [e] X.env=[(false,eval e X.env)])(h1 : -(2 ^ 62)<=lo/\lo<2 ^ 62/\-(2 ^ 62)<=hi/\hi<2 ^ 62)(hl:(hi - lo).toNat<=16777216) :
  aB X z (.Call (.Name "list" lp) [e] [] pos) g (.new (cu lo (hi - lo).toNat)) g1:=by
 refine aB.of λah s σ As M H Post I st k=>?_
 refine Call_ (fO I hg hm (by rfl:bootBuiltins ("list":Str)=some (.type "list")) (oC ?_ hs rfl))
 rw[hs];show wpAny _ _ (spliced ((false,eval e X.env)::[])) _ _ s;refine Calls.spliced_cons (h ah s σ As M H _ I st λr s1 H1 aO M1 t u v I1 q1 q2 hr=>Calls.spliced_nil ?_)
 have hn:Builtin.Range.rangeSize lo hi 1=(((hi - lo).toNat:Nat):Int):=by rw[rangeSize_one];split <;> lia
 refine call_list_range (I1.ok.hd hc) hr (small_one h1.1 h1.2.1 h1.2.2.1 h1.2.2.2) hn hl λh' tk acc' c' hk hS' hacc=>?_
 have hf:H1 s1⁻¹=none:=I1.hok.fresh (d5 _);have s2:=q1.aN (xs:=vQ lo (hi - lo).toNat) hf;have vv:=zM hacc;have I2:L2.Inv X ah σ (upd H1 s1⁻¹ (.lst (vQ lo (hi - lo).toNat))) { s1 with heap:=h',toks:=tk}:=
  I1.laid (t':=tk) hk (d5 _) (show dz X.prog X.w _ h' _ (.lst (vQ lo (hi - lo).toNat))from⟨by rw[vv.length,mM,hacc.1];exact nj hl,acc'.toList,c',vv,by simpa using hS'⟩)
 exact k (.ref s1⁻¹) _ _ _ aO (s1⁻¹::M1) I2 rfl s2 (q2.trans (aq.aN hf)) ⟨_,_,rfl,dA,λhA=>q1.fresh hf (q1.sub _ hA),q1.bR hf,az,zO _ _⟩
end
theorem nR(o:Obj)(f):(o.mapFields f).dict=o.dict:=by obtain⟨c,d,dt,sl⟩:=o;cases dt <;> rfl
structure sQ(h₀:Heap)(x C:Addr)(H:Hp)(h:Heap):Prop where
 obj:∃oe vs,h.get? x=some oe/\oe.cls=.ref C/\oe.dict=none/\oe.data=.fields vs/\1<vs.size/\(vs[1]?=some .none\/∃T oT ts,vs[1]?=some (.ref T)/\T≠x/\h₀.get? T=none/\H T=none/\h.get? T=some oT/\oT.data=.fields ts/\ts[3]?=some .none)
 new:h₀.get? x=none
 no:H x=none
section
theorem jP
  (hfr:A.frames=some (env::outer)) (hl:s.heap.FunFrames base (env::outer)) (hf:env.frame=some L) (he:s.heap.get? x=some oe) (hd:oe.data=.fields vs) (jy:1<vs.size)
  (h:∀h',(∀b o,b∉frs (env::outer)->b≠x->s.heap.get? b=some o->h'.get? b=some o)->(∀b o,b∈frs (env::outer)->s.heap.get? b=some o->∃sl,h'.get? b=some { o with slots:=sl})->
   (∃Bj vs' oT ts,h'.get? x=some Bj/\Bj.cls=oe.cls/\Bj.dict=oe.dict/\Bj.data=.fields vs'/\1<vs'.size/\vs'[1]?=some (.ref s⁻¹)/\h'.get? s⁻¹=some oT/\oT.data=.fields ts/\ts[3]?=some .none)->Q () { s with heap:=h'}) :
  wpAny M A (do let a <- frameOf env;let pl <- entryPlaceOf L hadNext;let b <- EntryCells.newEntry head a .none (rawInt L) .none pl;setField (.ref x) 1 b) (λ_ s'=>wpAny M A (setFlight (.ref x) none) Q E s') E s:=by
 have hx:x∉(env::outer).filterMap (·.frame):=λhm=>by
  obtain⟨_,o,ho,hnf⟩:=hl.mem hm;rw[he]at ho;cases ho;exact hnf vs hd
 refine aS (wpAny_frameOf_fun hfr hl hf λh₁ hs₁=>?_)
 refine aS (wpAny_entryPlaceOf λpl iB=>?_)
 unfold EntryCells.newEntry newFields;refine aS (l7 ?_ (iB.sizeOk5 _ _ _ _ _));have he₁:h₁.get? x=some oe:=(hs₁.2.1 x hx).trans he;generalize hO:({ cls:=.type "traceback",dict:=none,data:=.fields ([head,.ref L,.none,rawInt L,.none]++(if pl.isEmpty then List.replicate 6 Value.none else pl)).toArray}:Obj)=O
 have he₂:=bP (h:=h₁) O he₁;have hsz₁:h₁.objs.size=s⁻¹:=hs₁.1;have hT₂:(h₁.push O).get? h₁.objs.size=some O:=eD _ (by rw[<- hO];rfl)
 refine AO he₂ hd jy ?_;have Qg:h₁.objs.size≠x:=y6 (eJ he₁);have hd₃:=t8 hd (·.setIfInBounds 1 (Value.ref h₁.objs.size));have he₃:=t0 (Obj.mapFields (·.setIfInBounds 1 (Value.ref h₁.objs.size))) he₂ (xL hd₃);have hT₃:=(i9 (h₁.push O) (Obj.mapFields (·.setIfInBounds 1 (Value.ref h₁.objs.size))) (nN Qg)).trans hT₂;have ZZ:O.data=.fields ([head,.ref L,.none,rawInt L,.none]++(if pl.isEmpty then List.replicate 6 Value.none else pl)).toArray:=by rw[<- hO]
 unfold setFlight;refine aS (l8 he₃ hd₃ (x:=.ref h₁.objs.size) (by simp[jy]) ?_)
 rw[fN (show (Value.ref h₁.objs.size != Value.none)=true from by simp)]
 refine AO hT₃ ZZ (by simp only[dC,gL,kS,AW] <;> lia) (h _ ?_ ?_ ?_)
 . intro b o hb JB ho;have VR:h₁.get? b=some o:=(hs₁.2.1 b hb).trans ho;rw[i9 _ _ (y6 (eJ VR)),i9 _ _ (nN JB)];exact bP _ VR
 .
  intro b o hb ho;obtain⟨sl,VR⟩:=hs₁.2.2 b o ho;have JB:b≠x:=λq=>hx (q▸hb)
  refine⟨sl,?_⟩;rw[i9 _ _ (y6 (eJ VR)),i9 _ _ (nN JB)];exact bP _ VR
 .
  rw[<- hsz₁];refine⟨_,_,_,_,(i9 _ _ Qg).trans he₃,Obj.cls_mapFields _ _,nR _ _,hd₃,by simp[jy],by simp[jy],t0 _ hT₃ (xL (t8 ZZ _)),t8 ZZ _,?_⟩
  first
   | (simp;done)
   | (rcases iB with rfl |⟨_,_,_,_,_,_,_,rfl⟩ <;> simp)
theorem pg
  (hfr:A.frames=some (env::outer)) (hl:s.heap.FunFrames base (env::outer)) (hf:env.frame=some L) (fl:sQ h₀ x C H s.heap) (hn:h₀.get? s⁻¹=none) (hH:∀b,s⁻¹<=b->H b=none)
  (h:∀h',(∀b o,b∉frs (env::outer)->(h₀.get? b=none->H b=none->∀vs,o.data≠.fields vs)->s.heap.get? b=some o->h'.get? b=some o)->(∀b o,b∈frs (env::outer)->s.heap.get? b=some o->∃sl,h'.get? b=some { o with slots:=sl})->
   sQ h₀ x C H h'->(∀b o,s.heap.get? b=some o->∃o',h'.get? b=some o')->Q () { s with heap:=h'}):wpAny M A (noteFrame (.ref x) env) (λ_ s'=>wpAny M A (setFlight (.ref x) none) Q E s') E s:=by
 obtain⟨⟨oe,vs,he,hc,bI,hd,jy,hT⟩,TX,TY⟩:=fl;have hxf:x∉frs (env::outer):=λhm=>by
  obtain⟨_,o,ho,hnf⟩:=hl.mem hm;rw[he]at ho;cases ho;exact hnf vs hd
 have fin:∀(T0:Addr) (h1 h':Heap),(∀b,b≠T0->h1.get? b=s.heap.get? b)->(T0=x\/(h₀.get? T0=none/\H T0=none/\T0∉frs (env::outer)/\∃oT ts,s.heap.get? T0=some oT/\oT.data=.fields ts))->(∀o,s.heap.get? T0=some o->∃o',h1.get? T0=some o')->h1.objs.size=s⁻¹->
   (∀b o,b∉frs (env::outer)->b≠x->h1.get? b=some o->h'.get? b=some o)->(∀b o,b∈frs (env::outer)->h1.get? b=some o->∃sl,h'.get? b=some { o with slots:=sl})->
   (∃Bj vs' oT ts,h'.get? x=some Bj/\Bj.cls=oe.cls/\Bj.dict=oe.dict/\Bj.data=.fields vs'/\1<vs'.size/\vs'[1]?=some (.ref h1.objs.size)/\h'.get? h1.objs.size=some oT/\oT.data=.fields ts/\ts[3]?=some .none)->Q () { s with heap:=h'}:=by
  intro T0 h1 h' a1 a2 a2' a3 k1 k2 ⟨Bj,vs',oT,ts,e1,e2,Ip,e3,e4,e5,e6,e7,e8⟩;have Z0:T0∉frs (env::outer):=a2.elim (λq=>q▸hxf) λq=>q.2.2.1
  refine h h' (λb o hb hH' ho=>?_) (λb o hb ho=>?_) ⟨⟨Bj,vs',e1,e2.trans hc,Ip.trans bI,e3,e4,.inr ⟨h1.objs.size,oT,ts,e5,?_,?_,?_,e6,e7,e8⟩⟩,TX,TY⟩ λb o ho=>?_
  .
   have JB:b≠x:=λq=>by
    subst q;rw[he]at ho;cases ho;exact hH' TX TY vs hd
   have Yd:b≠T0:=λq=>a2.elim (λz=>JB (q.trans z)) λ⟨z1,z2,_,oT,ts,z3,z4⟩=>by
    subst q;rw[z3]at ho;cases ho;exact hH' z1 z2 ts z4
   exact k1 b o hb JB ((a1 b Yd).trans ho)
  . exact k2 b o hb ((a1 b (λq=>Z0 (q▸hb))).trans ho)
  . rw[a3];exact y6 (eJ he)
  . rw[a3];exact hn
  . rw[a3];exact hH _ (d5 _)
  .
   by_cases JB:b=x
   . exact⟨Bj,JB▸e1⟩
   .
    have h1b:∃o1,h1.get? b=some o1:=by
     by_cases Yd:b=T0
     . subst Yd;exact a2' o ho
     . exact⟨o,(a1 b Yd).trans ho⟩
    obtain⟨o1,Mt⟩:=h1b;by_cases hb:b∈frs (env::outer)
    . obtain⟨sl,q⟩:=k2 b o1 hb Mt;exact⟨_,q⟩
    . exact⟨o1,k1 b o1 hb JB Mt⟩
 unfold noteFrame;simp only[hf];rcases hT with hT |⟨T,oT,ts,h1,Qg,Ye,Yg,Hw,Hx,h3⟩
 . refine aS (l8 he hd hT ?_);rw[fR ⋯];exact jP hfr hl hf he hd jy λh' k1 k2 k3=>fin x s.heap h' (λ_ _=>rfl) (.inl rfl) (λo ho=>⟨o,ho⟩) rfl k1 k2 k3
 .
  refine aS (l8 he hd h1 ?_);rw[fN (show (Value.ref T != Value.none)=true from by simp)]
  refine aS (l8 Hw Hx h3 ?_);rw[fR (show ¬ ((Value.none==rawInt L)=true)from by simp[rawInt])]
  refine aS (AO Hw Hx (wT.mp h3).1 ?_);have other:∀b,b≠T->(s.heap.update T (Obj.mapFields (·.setIfInBounds 3 Value.none))).get? b=s.heap.get? b:=λb hb=>i9 _ _ (nN hb)
  have Z0:T∉frs (env::outer):=λhm=>by
   obtain⟨_,o,ho,hnf⟩:=hl.mem hm;rw[Hw]at ho;cases ho;exact hnf ts Hx
  have rec':∀b o,s.heap.get? b=some o->(∀vs,o.data≠.fields vs)->b≠T:=λb o hb hnf q=>by
   rw[q,Hw]at hb;cases hb;exact hnf ts Hx
  refine jP hfr (hl.of_keeps λb o hb hnf=>⟨o,(other b (rec' b o hb hnf)).trans hb,rfl⟩) hf ((other x (nN Qg)).trans he) hd jy λh' k1 k2 k3=>?_
  exact fin T _ h' other (.inr ⟨Ye,Yg,Z0,oT,ts,Hw,Hx⟩) (λo ho=>⟨_,t0 _ Hw (xL (t8 Hx _))⟩) (BQ ..) k1 k2 k3
end
theorem sQ.mono(f:sQ h₁ x C H h)(hm:∀b o,h₀.get? b=some o->∃o',h₁.get? b=some o'):sQ h₀ x C H h:=by
 have no:∀b,h₁.get? b=none->h₀.get? b=none:=λb hb=>by
  cases e:h₀.get? b with
  |none=>rfl
  |some o=>obtain⟨o',e'⟩:=hm b o e;rw[hb]at e';cases e'
 obtain⟨⟨oe,vs,h1,h2,h2',h3,h4,h5⟩,h6,h7⟩:=f;exact⟨⟨oe,vs,h1,h2,h2',h3,h4,h5.imp id λ⟨T,oT,ts,q1,q2,q3,q4⟩=>⟨T,oT,ts,q1,q2,no T q3,q4⟩⟩,no x h6,h7⟩
noncomputable def Bm(P:Program)(w:World):zc:=λouter H s E e s'=>∃x C H',e=.ref x/\s'.os=s.os/\AllBare s'.gens/\Un (frs outer) [] H H' s.heap s'.heap/\j4 P w H' s'.heap/\sQ s.heap x C H' s'.heap/\E (.ref C) none H'
theorem Dp(hx:X.ex=[])(I:L2.Inv X ah σ H s)(h:Bm X.prog X.w X.stack H s E e s') :
  ∃x C H',e=.ref x/\L2.Inv X ah σ H' s'/\sQ X.s₀.heap x C H' s'.heap/\E (.ref C) none H':=by
 obtain⟨x,C,H',rfl,h1,h2,h3,h4,h5,h6⟩:=h;exact⟨x,C,H',rfl,I.call' h1 h3 h4 h2 (λb z=>absurd z ⋯),h5.mono λb o e=>I.base.there b o e (by rw[hx];simp),h6⟩
section
theorem tW(I:L2.Inv X ah σ H' s')(dj:X.stack=X.env::X.outer)(hf:X.env.frame=some X.env.locals)(hex:X.ex=[])(fl:sQ X.s₀.heap x C H' s'.heap)
  (h:∀h'',(∀b o,b∉frs (X.env::X.outer)->(X.s₀.heap.get? b=none->H' b=none->∀vs,o.data≠.fields vs)->s'.heap.get? b=some o->h''.get? b=some o)->(∀b o,b∈frs (X.env::X.outer)->s'.heap.get? b=some o->∃sl,h''.get? b=some { o with slots:=sl})->
   Un (frs X.outer) [] X.H₀ H' X.s₀.heap h''->j4 X.prog X.w H' h''->sQ X.s₀.heap x C H' h''->Q () { s' with heap:=h''}) :
  wpAny (model X.prog X.w) X.A (noteFrame (.ref x) X.env) (λ_ s2=>wpAny (model X.prog X.w) X.A (setFlight (.ref x) none) Q E' s2) E' s':=by
 have hl:=I.stack;rw[dj]at hl;have ub:Un (frs X.outer) [] X.H₀ H' X.s₀.heap s'.heap:=hex▸I.base;have hsf:=I.qN;rw[dj]at hsf;refine pg (L:=X.env.locals) (I.ok.frames.trans (by rw[dj])) hl hf fl (Heap.get?_none_of_le I.sz) (λb hb=>I.hok.fresh hb) λh'' k1 k2 k3 k4=>?_
 have hin:∀b,b∈frs X.outer->b∈frs (X.env::X.outer):=λb hb=>by
  unfold frs;rw[mI,hf];exact b0 _ hb
 have hno:∀b o,X.s₀.heap.get? b=some o->b∉frs X.outer->b∉frs (X.env::X.outer):=λb o ho hb hm=>by
  unfold frs at hm;rw[mI,hf]at hm;rcases d0.mp hm with e |hm
  . rw[e]at ho;exact o6 _ (eA (eJ ho) I.ok.above)
  . exact hb hm
 have yU:∀b o (ob:Obj),X.s₀.heap.get? b=some o->(X.s₀.heap.get? b=none->H' b=none->∀vs,ob.data≠.fields vs):=λb o ob ho hb=>by rw[ho]at hb;cases hb
 refine h h'' k1 k2 ⟨λb o q n hb hx=>?_,λb o q n hb hx=>?_,ub.free,λb o q hx=>?_,ub.tups,ub.jC,ub.jD⟩ (λa o e=>?_) k3
 . exact k1 b o (hno b o q hb) (yU b o _ q) (ub.keep b o q n hb hx)
 . obtain⟨sl,e1⟩:=ub.slot b o q n hb hx;obtain⟨XS,e2⟩:=k2 b _ (hin b hb) e1;exact⟨XS,e2⟩
 . obtain⟨o',e1⟩:=ub.there b o q hx;exact k4 b o' e1
 .
  refine (I.hok a o e).stay (λb u hb q=>?_) (λ_ q=>q) λ_ _ q=>q
  have ht:H' b≠none:=by
   rcases hb with rfl |hb
   . rw[e];simp
   . rw[hb];simp
  exact k1 b u (λhm=>ht (hsf b hm)) (λ_ z=>absurd z ht) q
theorem ql(I:L2.Inv X ah σ H' s')(dj:X.stack=X.env::X.outer)(hf:X.env.frame=some X.env.locals)(hex:X.ex=[])(fl:sQ X.s₀.heap x C H' s'.heap)
  (h:∀s'',Bm X.prog X.w X.outer X.H₀ X.s₀ (λc o h=>c=.ref C/\o=none/\h=H') (.ref x) s''->Q () s'') :
  wpAny (model X.prog X.w) X.A (leaving X.env (.ref x)) Q E' s':=by
 unfold leaving;exact aS (tW I dj hf hex fl λh'' _ _ u k f=>h _ ⟨x,C,H',rfl,I.os,I.bare,u,k,f,rfl,rfl,rfl⟩)
theorem zP(I:L2.Inv X [] σ H' s')(hp:X.pn=[])(dj:X.stack=X.env::X.outer)(hf:X.env.frame=some X.env.locals)(hex:X.ex=[])(fl:sQ X.s₀.heap x C H' s'.heap)
  (h:∀s'',L2.Inv X [] σ H' s''->sQ X.s₀.heap x C H' s''.heap->Q () s'') :
  wpAny (model X.prog X.w) X.A (noteFrame (.ref x) X.env) (λ_ s2=>wpAny (model X.prog X.w) X.A (setFlight (.ref x) none) Q E' s2) E' s':=by
 refine tW I dj hf hex fl λh'' k1 k2 u k f=>h _ ?_ f
 have cellK:∀c v,s'.heap.IsCell c v->h''.IsCell c v:=λc v ⟨o,e,d⟩=>by
  by_cases hb:c∈frs (X.env::X.outer)
  . obtain⟨sl,e2⟩:=k2 c o hb e;exact⟨_,e2,d⟩
  . exact⟨o,k1 c o hb (λ_ _ vs q=>by rw[d]at q;cases q) e,d⟩
 have Yh:X.env.locals∈frs (X.env::X.outer):=by unfold frs;rw[mI,hf];exact dA
 obtain⟨m,hn,hlk⟩:=I.loc;refine⟨I.ok,I.os,I.bare,hex▸u,⟨m,?_,λi y v h1 h2 h3=>?_⟩,λy c e=>?_,I.free,I.dJ,λp hp2=>?_,k,I.len⟩
 . obtain⟨o,es,ep,e,d,r⟩:=hn;obtain⟨sl,e2⟩:=k2 _ o Yh e;exact⟨_,es,ep,e2,d,r⟩
 . obtain⟨u,r,q⟩:=hlk i y v h1 h2 h3;refine⟨u,r,q.imp id λ⟨q1,c,q2,q3⟩=>⟨q1,c,q2,cellK c _ q3⟩⟩
 . obtain⟨v,q⟩:=I.cell y c e;exact⟨v,cellK c v q⟩
 . rw[hp]at hp2;cases hp2
end
theorem Dq{P:Program}{w:World}{K:Frag}{mg:Str->Option Value}{base:Heap}{N:List Str}{qual:Str}{scope:Scope}{f:Addr}{cd:Value}{A:Around}{outer:List Env}{s:Shared}{H:Hp}{E:XK}{ah:List (Addr×Obj)}{σ:Sg}{H':Hp}{s':Shared}{x C:Addr}
  (I:L2.Inv (eZ (Bm P w) P w K mg base N qual scope f cd A outer s H E) ah σ H' s') (fl:sQ s.heap x C H' s'.heap) (hE:E (.ref C) none H'):(eZ (Bm P w) P w K mg base N qual scope f cd A outer s H E).xe (.ref x) s':=
 ql I rfl rfl rfl fl λs'' ⟨y,D,H2,e,h1,h2,h3,h4,h5,e1,e2,e3⟩=>by
  cases e;cases e1;subst e3;exact⟨x,C,H2,rfl,h1,h2,h3,h4,h5,hE⟩
def Acc(X:Cx)(z:Z)(g':G)(M:List Addr)(H:Hp)(C:Addr)(σ:Sg):Prop:=
 ∀ah s1 H1 aO M1 x,L2.Inv X ah σ H1 s1->S z g' σ aO M1 H1->aq M H M1 H1->sQ X.s₀.heap x C H1 s1.heap->X.xe (.ref x) s1
def zQ(X:Cx)(z:Z)(g':G)(M:List Addr)(H:Hp)(C:Addr):Prop:=∀σ,Acc X z g' M H C σ
theorem Acc.trans(st:aq M H M1 H1)(h:Acc X z g' M H C σ):Acc X z g' M1 H1 C σ:=λah s1 H2 aO M2 x I s st' fl=>h ah s1 H2 aO M2 x I s (st.trans st') fl
theorem zQ.trans(st:aq M H M1 H1)(h:zQ X z g' M H C):zQ X z g' M1 H1 C:=λσ=>(h σ).trans st
def Dr(X:Cx)(z:Z)(e:Expr)(g:G)(C:Addr)(g':G):Prop:=∃t,PE X e t/\∀σ As M H Q,S z g σ As M H->Acc X z g' M H C σ->t σ H Q
def T3(X:Cx)(z:Z)(e:Expr)(g:G)(C:Addr)(g':G):Prop:=∃t,PT X e t/\∀σ As M H Q,S z g σ As M H->Acc X z g' M H C σ->t σ H Q
def V0(X:Cx)(z:Z)(es:List Expr)(g:G)(C:Addr)(g':G):Prop:=∃t,PA X es t/\∀σ As M H Q,S z g σ As M H->Acc X z g' M H C σ->t σ H Q
def Qh(X:Cx)(z:Z)(st:Stmt)(g:G)(C:Addr)(g':G):Prop:=∃t,PS X st t/\∀σ As M H E,S z g σ As M H->zQ X z g' M H C->t E σ H
def JC(X:Cx)(z:Z)(jB:List Stmt)(g:G)(C:Addr)(g':G):Prop:=∃t,qO X jB t/\∀σ As M H E,S z g σ As M H->zQ X z g' M H C->t E σ H
section
variable{st:Stmt}
theorem aB.lift(h:aB X.kZ z e g r g'):aB X z e g r g':=let ⟨t,q,k⟩:=h;⟨t,q.kZ,k⟩
theorem cD.lift(h:cD X.kZ z e g v g'):cD X z e g v g':=let ⟨t,q,k⟩:=h;⟨t,q.kZ,k⟩
theorem Qi(h:Dr X z e g C g')(he:∀whole,isTrue e X.env whole=(do let v <- whole;standAt e.pos;holding [v] (truthy v))):T3 X z e g C g':=by obtain⟨t,q,k⟩:=h;exact⟨_,NC q he,λσ As M H Q s ac=>k σ As M H _ s ac⟩
theorem JD(h:T3 X z a g C g'):T3 X z (.UnaryOp .Not a pos) g C g':=by obtain⟨t,q,k⟩:=h;exact⟨_,By q,λσ As M H Q s ac=>k σ As M H _ s ac⟩
theorem JF(h:Dr X z e g C g')(hs:starEach (e::es) X.env=(false,eval e X.env)::starEach es X.env):V0 X z (e::es) g C g':=by
 obtain⟨t,q,k⟩:=h;have pn:PA X es (λ_ _ _=>False):=λ_ _ _ _ _ _ _ h=>h.elim
 exact⟨_,bC q pn hs,λσ As M H Q s ac=>k σ As M H _ s ac⟩
theorem JG(h1:aB X z e g r g1)(h:V0 X z es g1 C g')(hs:starEach (e::es) X.env=(false,eval e X.env)::starEach es X.env):V0 X z (e::es) g C g':=by obtain⟨t1,q1,k1⟩:=h1;obtain⟨t,q,k⟩:=h;exact⟨_,bC q1 q hs,λσ As M H Q s ac=>k1 σ As M H _ s λv H1 aO M1 s1 dB R1=>k σ aO M1 H1 _ s1 (ac.trans dB)⟩
theorem Qj(h:Dr X z e g C g'):Qh X z (.Return (some e) pos) g C g':=by obtain⟨t,q,k⟩:=h;exact⟨_,qQ q,λσ As M H E s ac=>k σ As M H _ s (ac σ)⟩
theorem JH(h:Dr X z e g C g')(hs:swapsWith e none pos.line X.env=pure false):Qh X z (.Expr e pos) g C g':=by obtain⟨t,q,k⟩:=h;exact⟨_,lU q hs,λσ As M H E s ac=>k σ As M H _ s (ac σ)⟩
theorem Qk(h:T3 X z c g C g'):Qh X z (.If c x y pos) g C g':=by obtain⟨t,q,k⟩:=h;exact⟨_,mK q bf bf,λσ As M H E s ac=>k σ As M H _ s (ac σ)⟩
theorem Ds(h1:cD X z c g v g1)(h:JC X z (if v then x else y) g1 C g'):Qh X z (.If c x y pos) g C g':=by
 obtain⟨t1,q1,k1⟩:=h1;obtain⟨t,q,k⟩:=h;cases v with
 |true=>exact⟨_,mK q1 q bf,λσ As M H E s ac=>k1 σ As M H _ s λH' aA M' s' st=>j6 (k σ aA M' H' _ s' (ac.trans st))⟩
 |false=>exact⟨_,mK q1 bf q,λσ As M H E s ac=>k1 σ As M H _ s λH' aA M' s' st=>o9 (k σ aA M' H' _ s' (ac.trans st))⟩
theorem JK(h:Qh X z st g C g'):JC X z (st::jB) g C g':=by obtain⟨t,q,k⟩:=h;exact⟨_,dM q bf,λσ As M H E s ac=>k σ As M H _ s ac⟩
theorem JL(h1:fT X z st g .nx g1)(h:JC X z jB g1 C g'):JC X z (st::jB) g C g':=by obtain⟨t1,q1,k1⟩:=h1;obtain⟨t,q,k⟩:=h;exact⟨_,dM q1 q,λσ As M H E s ac=>k1 σ As M H _ s λσ' aA M' H' s' st'=>k σ' aA M' H' E s' (ac.trans st')⟩
end
def Z1(K:Frag)(N:List Str)(np:Nat)(run:List Nat->G->Addr->G->Prop):Sp:=λvs H _ E=>
 vs.length=np/\∃(z:Z) (g g':G) (As M:List Addr) (C:Addr),z.K=K/\S z g (L2.start N vs) As M H/\run z.bor g C g'/\∀σ' aA M' H',S z g' σ' aA M' H'->aq M H M' H'->E (.ref C) none H'
section
variable{run:List Nat->G->Addr->G->Prop}
theorem Ql{P:Program}{w:World}{K:Frag}{mg:Str->Option Value}{base:Heap}{qual:Str}{st:Stmt}(F:Hs K x qual st f fd)(Sc:bV N ps (aD st))
  (h:∀(bE:Value) (A:Around) (outer:List Env) (s:Shared) (H:Hp) (E:XK),PySem.W.codeIn K bE qual=true->cG k (A.deeper (envOfC qual (aD st) s⁻¹ f bE))->
   ∀(z:Z) (g:G) (C:Addr) (g':G),z.K=K->run z.bor g C g'->JC (eZ (Bm P w) P w K mg base N qual (aD st) f bE A outer s H E) z (bA st) g C g') :
  iO P w K mg base (Bm P w) (k+1) f fd ps (Z1 K N ps.length run):=by
 obtain⟨oc,od,kV,doc,pm,an,bE,ct,osl,rfl,lk,bI⟩:=F.ex;refine Mj lk bI Sc (λvs H Q E q=>q.1) λA outer s H vs Q E hr ⟨_,z,g,g',As,M,C,hK,hs,hrun,hQ⟩=>?_
 obtain⟨t,q,kk⟩:=h bE A outer s H E bI hr z g C g' hK hrun;exact⟨t,q,kk _ As M H _ hs λσ ah s1 H1 aO M1 y I s' st' fl=>Dq I fl (hQ σ aO M1 H1 s' st')⟩
theorem JM(F:iO X.prog X.w X.K X.mg X.base (Bm X.prog X.w) k f fd ps (Z1 X.K N ps.length run))(hK:z.K=X.K)(hex:X.ex=[])(hr:cG k X.A)(hg:Gl X x)(hm:X.mg x=some (.ref f))(hk:PySem.W.keepIn X.K (.ref f)=true)(hb:L2.Binds X.K fd ps [])
  (ha:cQ X z (e::es) g rs g1) (aJ:rs.length=ps.length) (hl:bY rs g1=some gs) (nd:((vars 0 rs).map (·.2)).Nodup) (hrun:run ((vars 0 rs).map (·.1)) (dh N.length gs) C gc) (Df:back (vars 0 rs) gc g1=some gO)
  (je:(x==("__debug__":Str))=false) (he:starEach (e::es) X.env=(false,eval e X.env)::starEach es X.env) (iB:(backTo pos (starEach es X.env)).any (·.1)=false) :
  Dr X z (.Call (.Name x p) (e::es) [] pos) g C gO:=by
 refine⟨λσ H Q=>∃As M,S z g σ As M H/\Acc X z gO M H C σ,λah s σ H Q I ⟨As,M,hs,ac⟩=>?_,λσ As M H Q s ac=>⟨As,M,s,ac⟩⟩
 refine oS (eU I hg hm ?_ je);refine AA (h₀:=X.base) I.ok.mod.Bg hk (ha.run (pos:=pos) I hs λvs us s1 H1 aO M1 I1 r1 q1 q2 R1=>⟨I1.lT,?_⟩) he iB
 have hv:vs.length=rs.length:=R1.length;have hl2:(us++[]).length=ps.length:=by rw[l4,<- r1.length,hv,aJ]
 have ee:=q1.enter (N:=N) R1 hl nd;refine CD (BH (F.run X.A X.stack s1 H1 ⟨us,[]⟩ (us++[]) (vs++[]) (λ_ _=>False) (λcls _ H'=>cls=.ref C/\∃bu M2,S z gO σ bu M2 H'/\aq M H M2 H') hr I1.Ib (hb s1 us I1.lT hl2) (by rw[l4,l4];exact r1) ?_) λr s' hq=>?_)
 .
  rw[l4];refine⟨by rw[hv,aJ],qh z σ M1 H1 rs,dh N.length gs,gc,_,M1,C,hK,ee,by rw[j9];exact hrun,λσ' aA M' H' s' st'=>⟨rfl,?_⟩⟩
  obtain⟨M2,s2,aL,_⟩:=q1.leave (r:=.dat .non) (v:=.non) R1 hl nd s' st' .non Df rfl;exact⟨aO,M2,s2,q2.trans aL⟩
 .
  cases r with
  |error ev=>
   have hq:Bm X.prog X.w X.stack H1 s1 (λcls _ H'=>cls=.ref C/\∃bu M2,S z gO σ bu M2 H'/\aq M H M2 H') ev s':=hq
   obtain⟨y,C',H',rfl,I',fl,hC,bu,M2,s2,aL⟩:=Dp hex I1 hq;cases hC;exact ac ah s' H' bu M2 y I' s2 aL fl
  |ok Z2=>
   cases Z2 with
   |ret u=>
    have hq:CE X.stack X.prog X.w H1 s1 (λ_ _=>False) u s':=hq
    obtain⟨_,_,_,_,_,_,_,q⟩:=hq;exact q.elim
   |next=>exact False.elim hq
   |brk=>exact False.elim hq
   |cont=>exact False.elim hq
end
noncomputable def veM:List Value:=[.type "ValueError",.type "Exception",.type "BaseException",.type "object"]
abbrev fc(K:Frag)(C:Addr):Prop:=PySem.W.excIn K C veM "ValueError.__new__"=true
theorem rK{K:Frag}{h:Heap}{C:Addr}(X:K.In h)(q:fc K C) :
  ∃bm N nm qn bs hdct sn sub ab col dd k0 k1 k2 k3 k5 mN,h.get? C=some (excClassObj nm qn C N bs bm hdct sn sub ab col dd k0 k1 k2 k3 k5 "ValueError.__new__")/\h.Ns N mN/\mN "__init__"=none/\OwnTail h veM bm:=by
 unfold fc PySem.W.excIn at q;split at q
 .
  rename_i dd cd sl ho;split at q
  .
   rename_i C' bm k0 k1 k2 k3 n k5 hm hs;simp only[eP,beq_iff_eq,BE]at q;obtain⟨⟨⟨⟨⟨rfl,rfl⟩,V1⟩,ht⟩,hok⟩,hni⟩:=q;obtain⟨nm,bs,mro,ns,qn,hd,sn,sub,ab,col,del⟩:=cd;dsimp only at hm V1 hok hni;subst hm V1;have hsl:sl = #[k0,k1,k2,k3,some (.builtin "ValueError.__new__"),k5]:=by obtain⟨l⟩:=sl;simp only at hs;rw[hs]
   subst hsl;exact⟨bm,ns,nm,qn,bs,hd,sn,sub,ab,col,dd,k0,k1,k2,k3,k5,_,X _ _ ho,.of_isNs (PySem.W.isNs_of_in X hok),PySem.W.nsMap_none_of_in X hok hni,PySem.W.tail_of_in X ht⟩
  . cases q
 . cases q
theorem tX(x:dz P w H h a o):∃ob,h.get? a=some ob:=by
 induction o with
 |lst xs=>obtain⟨_,_,_,_,e⟩:=x;exact⟨_,e⟩
 |tup xs=>obtain⟨_,_,_,ob,e,_⟩:=x;exact⟨_,e⟩
 |dK jf=>obtain⟨_,_,_,_,o,_,_,e,_⟩:=x;exact⟨_,e⟩
 |dT jf=>obtain⟨_,_,_,_,o,_,_,e,_⟩:=x;exact⟨_,e⟩
 |set S n=>obtain⟨o,_,_,_,e,_⟩:=x;exact⟨_,e⟩
 |ins C dx fs=>obtain⟨_,_,_,e,_⟩:=x;exact⟨_,e⟩
 |own y=>exact x
 |xd fs=>obtain⟨mA,⟨o,_,_,e,_⟩,_⟩:=x;exact⟨_,e⟩
 |XJ lo hi=>obtain⟨_,_,_,e⟩:=x;exact⟨_,e⟩
 |iN o u ih=>exact⟨_,x.1⟩
 |j3 ps=>exact⟨_,x⟩
 |met f y=>exact⟨_,x⟩
 |ext φ=>exact x.2.1
section
theorem Dt(hc:X.calm=true)(hex:X.ex=[])(hq:fc X.K C)(hg:Gl X x)(hm:X.mg x=some (.ref C))(je:(x==("__debug__":Str))=false)(ha:cQ X z [m] g [.dat d] g1)(hs:starEach [m] X.env=[(false,eval m X.env)]) :
  Qh X z (.Raise (some (.Call (.Name x np) [m] [] aU)) none pos) g C g1:=by
 refine⟨λ_ σ H=>∃As M,S z g σ As M H/\zQ X z g1 M H C,λah s σ H E I ⟨As,M,st,ac⟩=>?_,λσ As M H E s ac=>⟨As,M,s,ac⟩⟩
 obtain⟨bm,N,nm,qn,bs,hdct,sn,sub,ab,col,dd,k0,k1,k2,k3,k5,mN,hC,hN,hni,T⟩:=rK I.ok.mod.Bg hq;refine wpAny_Raise_call_subU (Bn:= "ValueError") (C:=C) (nm:=nm) (q:=qn) (N:=N) (bs:=bs) (bm:=bm) (hdct:=hdct) (sn:=sn) (sub:=sub) (ab:=ab) (col:=col) (dd:=dd) (k0:=k0) (k1:=k1) (k2:=k2) (k3:=k3) (k5:=k5) PySem.F.excBase_ValueError ⋯ PySem.F.excBase_ValueError (T.hasType ⋯) (I.ok.hd hc) (by rw[hs];rfl) hni (eU I hg hm ⟨rfl,?_⟩ je)
 rw[hs];refine Calls.evalArgs_plain (x:=eval m X.env) (rest:=[]) ?_;have e1:spliced ((false,eval m X.env)::[])=spliced (backTo aU (starEach [m] X.env)):=by rw[hs];rfl
 rw[e1];refine (ha.run I st λvs us s1 H1 aO M1 I1 r1 q1 q2 R1=>?_)
 refine⟨rfl,?_,I1.bk _ _ hC,hN.keeps I1.bk,T.keeps I1.bk,λh' e Yi=>?_⟩
 . show us.length<=sizeLine;have:=r1.length;rw[R1.length]at this;rw[<- this,l5];exact (by decide:(1:Nat)<=16777216)
 .
  have I2:L2.Inv X ah σ H1 { s1 with heap:=h'}:=I1.kept (t':=s1.toks) Yi.keeps;have iC:H1 e=none:=by
   cases q:H1 e with
   |none=>rfl
   |some o=>obtain⟨ob,ho⟩:=tX (I1.hok e o q);have hn:=Yi.new;rw[ho]at hn;cases hn
  refine ac σ ah _ H1 aO M1 e I2 q1 q2 ?_;obtain⟨t,ht,_,_⟩:=Yi.there;refine⟨⟨_,_,ht,rfl,rfl,rfl,by simp,.inl ⋯⟩,?_,iC⟩
  cases q:X.s₀.heap.get? e with
  |none=>rfl
  |some o=>
   obtain⟨ob,ho⟩:=I1.base.there e o q (by rw[hex];simp)
   have hn:=Yi.new;rw[ho]at hn;cases hn
end
section
theorem Du(F:iO X.prog X.w X.K X.mg X.base sP k f fd ps sp)(h:V0 X z (e::es) g C g')(hr:cG k X.A)(hg:Gl X x)(hm:X.mg x=some (.ref f))(hk:PySem.W.keepIn X.K (.ref f)=true)(hb:L2.Binds X.K fd ps [])
  (je:(x==("__debug__":Str))=false) (he:starEach (e::es) X.env=(false,eval e X.env)::starEach es X.env) (iB:(backTo pos (starEach es X.env)).any (·.1)=false):Dr X z (.Call (.Name x p) (e::es) [] pos) g C g':=by
 obtain⟨t,q,kk⟩:=h;exact⟨_,xH F hr hg hm hk hb .nil Ml q je he iB,λσ As M H Q s ac=>kk σ As M H _ s ac⟩
end
open PySem PySem.W PyProof.Rows
noncomputable def gH{α:Type}(lt:Nat->Nat->Bool):KasT α->α
 |.ret a=>a
 |.ask i j k=>gH lt (k (lt i j))
theorem d9{α β:Type}(lt:Nat->Nat->Bool)(f:α->KasT β):∀t:KasT α,gH lt (t.bind f)=gH lt (f (gH lt t))
 |.ret _=>rfl
 |.ask i j k=>d9 lt f (k (lt i j))
structure jQ(α:Type) where
 lt:α->α->Bool
 irr:∀a,lt a a=false
 tr:∀a b c,lt a b=true->lt b c=true->lt a c=true
 tot:∀a b,lt a b=false->lt b a=false->a=b
namespace jQ
variable{α:Type}(O:jQ α)
def le(a b:α):Prop:=O.lt b a=false
variable{O}
theorem le_refl(a:α):O.le a a:=O.irr a
theorem le_of_lt(h:O.lt a b=true):O.le a b:=by
 unfold le;cases e:O.lt b a
 . rfl
 . have:=O.tr _ _ _ h e;rw[O.irr]at this;cases this
theorem qm(h1:O.le a b)(h2:O.le b c):O.le a c:=by
 unfold le at *;cases e:O.lt c a with
 |false=>rfl
 |true=>
  exfalso;cases e1:O.lt a b with
  |true=>have:=O.tr _ _ _ e e1;rw[h2]at this;cases this
  |false=>have hab:=O.tot a b e1 h1;subst hab;rw[h2]at e;cases e
theorem x6(h1:O.le a b)(h2:O.le b a):a=b:=O.tot a b h2 h1
end jQ
section
variable{α:Type}
noncomputable def dI(key:Nat->α)(p:Array Nat)(i:Nat):α:=key (p.getD i 0)
def iS(O:jQ α)(key:Nat->α)(p:Array Nat)(n:Nat):Prop:=∀i j,i<=j->j<n->O.le (dI key p i) (dI key p j)
def gZ(O:jQ α)(key:Nat->α)(p:Array Nat)(n:Nat):Prop:=∀i j,i<=j->j<n->O.le (dI key p j) (dI key p i)
noncomputable def lW(O:jQ α)(key:Nat->α)(i j:Nat):Bool:=O.lt (key i) (key j)
theorem getD_some{p q:Array Nat}{i j:Nat}(h:p[i]?=q[j]?):p.getD i 0=q.getD j 0:=by rw[wP,wP,h]
theorem lX{p:Array Nat}{i j:Nat}(hj:j<=p.size)(k:Nat):dI key (kas_rev p i j) k=if i<=k/\k<j then dI key p (i+j - 1 - k)else dI key p k:=by
 have e:=getElem?_mirror_all (i:=i) hj k;unfold dI kas_rev;split
 . rename_i h;rw[fN h]at e;rw[getD_some e]
 . rename_i h;rw[fR h]at e;rw[getD_some e]
theorem JN{p:Array Nat}{src d:Nat}(hs:src<p.size)(hd:d<=src)(k:Nat):dI key (bubble p src d) k=if k=src - d then dI key p src else if src - d<k/\k<=src then dI key p (k - 1)else dI key p k:=by
 have e:=getElem?_bubble hs d hd k;unfold dI;by_cases h1:k=src - d
 . rw[fN h1]at e ⊢;rw[getD_some e]
 .
  rw[fR h1]at e ⊢
  by_cases h2:src - d<k/\k<=src
  . rw[fN h2]at e ⊢;rw[getD_some e]
  . rw[fR h2]at e ⊢;rw[getD_some e]
theorem iS.ext(h:iS O key p n)(hl:O.lt (dI key p n) (dI key p (n - 1))=false)(h1:1<=n):iS O key p (n+1):=by
 intro i j hij hj;by_cases e:j<n
 . exact h i j hij e
 .
  have:j=n:=by lia
  subst this;by_cases e2:i=j
  . subst e2;exact jQ.le_refl _
  . exact jQ.qm (h i (j - 1) ⋯ ⋯) hl
theorem vR:∀(f n:Nat),1<=n->iS O key p n->∃m,gH (lW O key) (kas_asc p f n)=m/\n<=m/\m<=n+f/\iS O key p m/\(m<n+f->O.lt (dI key p m) (dI key p (m - 1))=true)
 | 0,n,_,h=>⟨n,rfl,d5 _,d5 _,h,λz=>absurd z (o6 _)⟩
 |f+1,n,h1,h=>by
  unfold kas_asc;show ∃m,gH (lW O key) (if lW O key (p.getD n 0) (p.getD (n - 1) 0)=true then KasT.ret n else kas_asc p f (n+1))=m/\_
  cases e:lW O key (p.getD n 0) (p.getD (n - 1) 0)with
  |true=>exact⟨n,rfl,d5 _,by lia,h,λ_=>e⟩
  |false=>obtain⟨m,q1,q2,q3,q4,q5⟩:=vR f (n+1) ⋯ (h.ext e h1);exact⟨m,q1,by lia,by lia,q4,λz=>q5 ⋯⟩
theorem gZ.ext(h:gZ O key p n)(hl:O.le (dI key p n) (dI key p (n - 1)))(h1:1<=n):gZ O key p (n+1):=by
 intro i j hij hj;by_cases e:j<n
 . exact h i j hij e
 .
  have:j=n:=by lia
  subst this;by_cases e2:i=j
  . subst e2;exact jQ.le_refl _
  . exact jQ.qm hl (h i (j - 1) ⋯ ⋯)
theorem gZ.Qm(h:gZ O key p n)(hk:∀k,dI key p' k=dI key p k):gZ O key p' n:=λi j a b=>by rw[hk,hk];exact h i j a b
def V2(key:Nat->α)(p:Array Nat)(n q:Nat):Prop:=q+1<=n/\∀k,n - (q+1)<=k->k<n->dI key p k=dI key p (n - 1)
theorem x8(h:V2 key p n q)(hz:n<=p.size)(k:Nat):dI key (kas_rev p (n - (q+1)) n) k=dI key p k:=by
 rw[lX hz];split
 . rename_i hk;have hq:=h.1;rw[h.2 k hk.1 hk.2,h.2 (n - (q+1)+n - 1 - k) ⋯ ⋯]
 . rfl
theorem lY:∀(f:Nat) (p:Array Nat) (n q:Nat),1<=n->n+f<=p.size->gZ O key p n->V2 key p n q->
  ∃p' m q',gH (lW O key) (kas_desc f p n q)=(p',m,q')/\p'.Perm p/\n<=m/\m<=n+f/\gZ O key p' m/\V2 key p' m q'
 | 0,p,n,q,_,_,h,hq=>⟨p,n,q,rfl,A6 _,d5 _,d5 _,h,hq⟩
 |f+1,p,n,q,h1,hz,h,hq=>by
  unfold kas_desc;show ∃p' m q',gH (lW O key) (if lW O key (p.getD n 0) (p.getD (n - 1) 0)=true then (if q > 0 then kas_desc f (kas_rev p (n - (q+1)) n) (n+1) 0 else kas_desc f p (n+1) 0)
   else .ask (p.getD (n - 1) 0) (p.getD n 0) λd=>if d=true then .ret (p,n,q)else kas_desc f p (n+1) (q+1))=(p',m,q')/\_
  cases e:lW O key (p.getD n 0) (p.getD (n - 1) 0)with
  |true=>
   rw[fN rfl];have hl:O.le (dI key p n) (dI key p (n - 1)):=jQ.le_of_lt e;have one:∀p':Array Nat,V2 key p' (n+1) 0:=λp'=>⟨by lia,λk a b=>by have:k=n:=⋯;subst this;rfl⟩
   by_cases hq0:q > 0
   .
    rw[fN hq0];have hk:=x8 hq (by lia:n<=p.size)
    have hF:gZ O key (kas_rev p (n - (q+1)) n) (n+1):=(h.ext hl h1).Qm hk;obtain⟨p',m,q',r1,r2,r3,r4,r5,r6⟩:=lY f (kas_rev p (n - (q+1)) n) (n+1) 0 ⋯ (by rw[kas_rev_size];lia) hF (one _)
    exact⟨p',m,q',r1,r2.trans (mirror_perm _ _ _ _),by lia,by lia,r5,r6⟩
   . rw[fR hq0];obtain⟨p',m,q',r1,r2,r3,r4,r5,r6⟩:=lY f p (n+1) 0 ⋯ ⋯ (h.ext hl h1) (one _);exact⟨p',m,q',r1,r2,by lia,by lia,r5,r6⟩
  |false=>
   rw[fR i7];show ∃p' m q',gH (lW O key) (if lW O key (p.getD (n - 1) 0) (p.getD n 0)=true then .ret (p,n,q)else kas_desc f p (n+1) (q+1))=(p',m,q')/\_
   cases e2:lW O key (p.getD (n - 1) 0) (p.getD n 0)with
   |true=>exact⟨p,n,q,rfl,A6 _,d5 _,by lia,h,hq⟩
   |false=>
    rw[fR i7];have he:dI key p n=dI key p (n - 1):=O.tot _ _ e e2;have hq':V2 key p (n+1) (q+1):=⟨by have:=hq.1;lia,λk a b=>by
     show dI key p k=dI key p n;by_cases hk:k=n
     . subst hk;rfl
     .
      rw[he];exact hq.2 k ⋯ ⋯⟩
    obtain⟨p',m,q',r1,r2,r3,r4,r5,r6⟩:=lY f p (n+1) (q+1) ⋯ ⋯ (h.ext (by rw[he];exact jQ.le_refl _) h1) hq'
    exact⟨p',m,q',r1,r2,by lia,by lia,r5,r6⟩
theorem Dw(h:gZ O key p n)(hz:n<=p.size):iS O key (kas_rev p 0 n) n:=λi j a b=>by
 rw[lX hz,lX hz,fN ⟨by lia,by lia⟩,fN ⟨by lia,by lia⟩]
 exact h _ _ ⋯ ⋯
theorem tY(h1:1<=n)(hn:n<=nrem)(hz:nrem<=p.size)(h:gZ O key p n):∃m p',gH (lW O key) (kas_tail3 n nrem p)=(m,p')/\p'.Perm p/\1<=m/\m<=nrem/\iS O key p' m:=by unfold kas_tail3;rw[d9];obtain⟨m,q1,q2,q3,q4,_⟩:=vR (O:=O) (key:=key) (p:=kas_rev p 0 n) (nrem - n) n h1 (Dw h ⋯);rw[q1];exact⟨m,_,rfl,mirror_perm _ _ _ _,by lia,by lia,q4⟩
theorem lu(h1:1<=n)(hn:n+1<=nrem)(hz:nrem<=p.size)(h:gZ O key p (n+1)):∃m p',gH (lW O key) (kas_descPart n nrem p)=(m,p')/\p'.Perm p/\1<=m/\m<=nrem/\iS O key p' m:=by
 unfold kas_descPart;rw[d9];obtain⟨p',m,q',r1,r2,r3,r4,r5,r6⟩:=lY (O:=O) (key:=key) (nrem - (n+1)) p (n+1) 0 ⋯ ⋯ h ⟨by lia,λk a b=>by have:k=n:=⋯;subst this;rfl⟩
 rw[r1];dsimp only;have hs:p'.size=p.size:=r2.size_eq;by_cases hq:q' > 0
 .
  rw[fN hq];have hk:=x8 r6 (by lia:m<=p'.size)
  obtain⟨m',p2,s1,s2,s3,s4,s5⟩:=tY (nrem:=nrem) ⋯ ⋯ (by rw[kas_rev_size];lia) (r5.Qm hk)
  exact⟨m',p2,s1,(s2.trans (mirror_perm _ _ _ _)).trans r2,s3,s4,s5⟩
 . rw[fR hq];obtain⟨m',p2,s1,s2,s3,s4,s5⟩:=tY (nrem:=nrem) ⋯ ⋯ ⋯ r5;exact⟨m',p2,s1,s2.trans r2,s3,s4,s5⟩
theorem Dy(h1:1<=n)(hz:n<=p.size):∃m p',gH (lW O key) (kas_count n p)=(m,p')/\p'.Perm p/\1<=m/\m<=n/\iS O key p' m:=by
 unfold kas_count;rw[d9];obtain⟨m,q1,q2,q3,q4,q5⟩:=vR (O:=O) (key:=key) (p:=p) (n - 1) 1 (d5 _) (λi j a b=>by have e1:i=0:=⋯;have e2:j=0:=⋯;subst e1;subst e2;exact jQ.le_refl _)
 rw[q1];by_cases e1:(m==n)=true
 . rw[fN e1];exact⟨m,p,rfl,A6 _,q2,by lia,q4⟩
 .
  rw[fR e1];have hm:m<n:=by
   have:m≠n:=λz=>e1 (by rw[z];exact BO _)
   lia
  have yU:=q5 ⋯;by_cases e2:m > 1
  .
   rw[fN e2];show ∃m' p',gH (lW O key) (if lW O key (p.getD 0 0) (p.getD (m - 1) 0)=true then KasT.ret (m,p)else kas_descPart m n (kas_rev p 0 m))=(m',p')/\_
   cases e3:lW O key (p.getD 0 0) (p.getD (m - 1) 0)with
   |true=>exact⟨m,p,rfl,A6 _,q2,by lia,q4⟩
   |false=>
    rw[fR i7];have Yj:∀k,k<m->dI key p k=dI key p (m - 1):=λk hk=>by
     refine jQ.x6 (O:=O) (q4 k (m - 1) ⋯ ⋯) ?_;exact jQ.qm (show O.le (dI key p (m - 1)) (dI key p 0)from e3) (q4 0 k ⋯ hk)
    have hk:∀k,dI key (kas_rev p 0 m) k=dI key p k:=λk=>by
     rw[lX ⋯];split
     . rw[Yj _ ⋯,Yj k ⋯]
     . rfl
    have hF:gZ O key (kas_rev p 0 m) (m+1):=by
     refine gZ.Qm (p:=p) (gZ.ext (λi j a b=>?_) (jQ.le_of_lt yU) ⋯) hk
     rw[Yj i ⋯,Yj j b];exact jQ.le_refl _
    obtain⟨m',p2,s1,s2,s3,s4,s5⟩:=lu (O:=O) (key:=key) (p:=kas_rev p 0 m) q2 (by lia:m+1<=n) (by rw[kas_rev_size];exact hz) hF
    exact⟨m',p2,s1,s2.trans (mirror_perm _ _ _ _),s3,s4,s5⟩
  .
   rw[fR e2];have hF:gZ O key p (m+1):=gZ.ext (λi j a b=>by have e1:i=0:=⋯;have e2:j=0:=⋯;subst e1;subst e2;exact jQ.le_refl _) (jQ.le_of_lt yU) q2
   exact lu q2 ⋯ hz hF
theorem nU(hR:iS O key p k):∀(f l r:Nat),l<=r->r<=k->r - l<=f->(∀i,i<l->O.le (dI key p i) (dI key p k))->(∀i,r<=i->i<k->O.lt (dI key p k) (dI key p i)=true)->
  ∃m,gH (lW O key) (kas_place p k f l r)=m/\m<=k/\(∀i,i<m->O.le (dI key p i) (dI key p k))/\∀i,m<=i->i<k->O.lt (dI key p k) (dI key p i)=true
 | 0,l,r,h1,h2,h3,h4,h5=>⟨l,rfl,by lia,h4,λi a b=>h5 i ⋯ b⟩
 |f+1,l,r,h1,h2,h3,h4,h5=>by
  unfold kas_place;by_cases e:l ≥ r
  . rw[fN e];exact⟨l,rfl,by lia,h4,λi a b=>h5 i ⋯ b⟩
  .
   rw[fR e];show ∃m,gH (lW O key) (if lW O key (p.getD k 0) (p.getD ((l+r) / 2) 0)=true then kas_place p k f l ((l+r) / 2)else kas_place p k f ((l+r) / 2+1) r)=m/\_
   cases e2:lW O key (p.getD k 0) (p.getD ((l+r) / 2) 0)with
   |true=>
    rw[fN rfl];refine nU hR f l ((l+r) / 2) ⋯ ⋯ ⋯ h4 λi a b=>?_
    by_cases hi:r<=i
    . exact h5 i hi b
    .
     have q:O.le (dI key p ((l+r) / 2)) (dI key p i):=hR _ _ a b;cases e3:O.lt (dI key p k) (dI key p i)with
     |true=>rfl
     |false=>
      have:=jQ.qm q (show O.le (dI key p i) (dI key p k)from e3)
      have Ip:O.lt (dI key p k) (dI key p ((l+r) / 2))=true:=e2;unfold jQ.le at this;rw[this]at Ip;cases Ip
   |false=>
    rw[fR i7];refine nU hR f ((l+r) / 2+1) r ⋯ h2 ⋯ (λi a=>?_) h5
    exact jQ.qm (hR i ((l+r) / 2) ⋯ ⋯) e2
theorem Dz:∀(f:Nat) (p:Array Nat) (k:Nat),k+f<=p.size->iS O key p k->∃p',gH (lW O key) (kas_bin f p k)=p'/\p'.Perm p/\iS O key p' (k+f)
 | 0,p,k,_,h=>⟨p,rfl,A6 _,h⟩
 |f+1,p,k,hz,h=>by
  unfold kas_bin;rw[d9];obtain⟨l,q1,q2,q3,q4⟩:=nU h k 0 k (wE _) (d5 _) ⋯ (λi a=>absurd a (AZ _)) (λi a b=>absurd (Nat.lt_of_le_of_lt a b) (o6 _))
  rw[q1];have hk:=λi=>JN (key:=key) (p:=p) (src:=k) (d:=k - l) ⋯ ⋯ i
  have hR:iS O key (bubble p k (k - l)) (k+1):=λi j a b=>by
   rw[hk,hk];have e:k - (k - l)=l:=by lia
   rw[e];by_cases i1:i=l
   .
    rw[fN i1];by_cases j1:j=l
    . rw[fN j1];exact jQ.le_refl _
    .
     rw[fR j1,fN ⟨by lia,by lia⟩]
     exact jQ.le_of_lt (q4 (j - 1) ⋯ ⋯)
   .
    rw[fR i1];by_cases i2:l<i/\i<=k
    .
     rw[fN i2,fR ⋯,fN ⟨by lia,by lia⟩]
     exact h _ _ ⋯ ⋯
    .
     rw[fR i2];by_cases j1:j=l
     . rw[fN j1];exact q3 i ⋯
     .
      rw[fR j1];by_cases j2:l<j/\j<=k
      . rw[fN j2];exact h _ _ ⋯ ⋯
      . rw[fR j2];exact h _ _ a ⋯
  obtain⟨p',s1,s2,s3⟩:=Dz f (bubble p k (k - l)) (k+1) (by rw[bubble_size];lia) hR
  exact⟨p',s1,s2.trans (bubble_perm _ _ _),by rw[show k+(f+1)=k+1+f by lia];exact s3⟩
theorem JQ(h1:1<=n):∃p,gH (lW O key) (kas_sort n)=p/\p.Perm (List.range n).toArray/\iS O key p n:=by
 unfold kas_sort;rw[d9];obtain⟨m,p,q1,q2,q3,q4,q5⟩:=Dy (O:=O) (key:=key) (p:=(List.range n).toArray) h1 ⋯;rw[q1];dsimp only;have hs:p.size=n:=by rw[q2.size_eq];simp
 have e:max m 1=m:=by lia
 rw[e];by_cases hm:m<n
 . rw[fN hm];obtain⟨p',s1,s2,s3⟩:=Dz (O:=O) (key:=key) (n - m) p m ⋯ q5;exact⟨p',s1,s2.trans q2,by rw[show m+(n - m)=n by lia]at s3;exact s3⟩
 .
  rw[fR hm];have:m=n:=by lia
  subst this;exact⟨p,rfl,q2,q5⟩
end
noncomputable def x9{α:Type}(n:Nat)(P:α->Prop):KasT α->Prop
 |.ret a=>P a
 |.ask i j k=>i<n/\j<n/\∀b,x9 n P (k b)
theorem x9.bind{α β:Type}{n:Nat}{P:α->Prop}{Q:β->Prop}{f:α->KasT β}:∀{t:KasT α},x9 n P t->(∀a,P a->x9 n Q (f a))->x9 n Q (t.bind f)
 |.ret a,h,hf=>hf a h
 |.ask _ _ _,h,hf=>⟨h.1,h.2.1,λb=>(h.2.2 b).bind hf⟩
theorem tZ{α:Type}{n:Nat}{P:α->Prop}{lt:Nat->Nat->Bool}{cmp:Nat->Nat->(Bool->Shared->Prop)->Shared->Prop}{Q:α->Shared->Prop}{s:Shared}(hc:∀i j C,i<n->j<n->C (lt i j) s->cmp i j C s):∀t:KasT α,x9 n P t->Q (gH lt t) s->t.kasWp cmp Q s
 |.ret _,_,h=>h
 |.ask i j k,ok,h=>hc i j _ ok.1 ok.2.1 (tZ hc (k (lt i j)) (ok.2.2 _) h)
def nW(n:Nat)(p:Array Nat):Prop:=0<n/\∀x∈p.toList,x<n
theorem nW.at(h:nW n p)(i:Nat):p.getD i 0<n:=by
 rw[wP];cases e:p[i]? with
 |none=>exact h.1
 |some x=>exact h.2 x (by rw[wT]at e;obtain⟨hi,rfl⟩:=e;simp)
theorem nW.perm(h:nW n p)(e:p'.Perm p):nW n p':=⟨h.1,λx hx=>h.2 x ((AJ.mp e).mem_iff.mp hx)⟩
theorem nW.rev(h:nW n p)(i j:Nat):nW n (kas_rev p i j):=h.perm (mirror_perm _ _ _ _)
theorem nW.bub(h:nW n p)(i j:Nat):nW n (bubble p i j):=h.perm (bubble_perm _ _ _)
section
theorem vU(h:nW N p):∀f n,x9 N (λ_=>True) (kas_asc p f n)
 | 0,_=>trivial
 |f+1,n=>⟨h.at _,h.at _,λb=>by cases b <;> first |exact trivial |exact vU h f (n+1)⟩
theorem lZ:∀f p n q,nW N p->x9 N (λr=>nW N r.1) (kas_desc f p n q)
 | 0,_,_,_,h=>h
 |f+1,p,n,q,h=>by
  refine⟨h.at _,h.at _,λb=>?_⟩
  dsimp only;cases b with
  |true=>
   rw[fN rfl];by_cases hq:q > 0
   . rw[fN hq];exact lZ f _ _ _ (h.rev _ _)
   . rw[fR hq];exact lZ f _ _ _ h
  |false=>
   rw[fR i7];refine⟨h.at _,h.at _,λd=>?_⟩
   cases d with
   |true=>exact h
   |false=>exact lZ f _ _ _ h
theorem uc{p:Array Nat}{n nrem:Nat}(h:nW N p):x9 N (λr=>nW N r.2) (kas_tail3 n nrem p):=(vU (h.rev 0 n) _ _).bind λ_ _=>h.rev 0 n
theorem lz{p:Array Nat}{n nrem:Nat}(h:nW N p):x9 N (λr=>nW N r.2) (kas_descPart n nrem p):=by
 refine (lZ _ _ _ _ h).bind λr hr=>?_
 by_cases hq:r.2.2 > 0
 . rw[fN hq];exact uc (nW.rev hr _ _)
 . rw[fR hq];exact uc hr
theorem DG{p:Array Nat}{n:Nat}(h:nW N p):x9 N (λr=>nW N r.2) (kas_count n p):=by
 refine (vU h _ _).bind λm _=>?_
 by_cases e1:(m==n)=true
 . rw[fN e1];exact h
 .
  rw[fR e1];by_cases e2:m > 1
  .
   rw[fN e2];refine⟨h.at _,h.at _,λb=>?_⟩
   cases b with
   |true=>exact h
   |false=>exact lz (h.rev _ _)
  . rw[fR e2];exact lz h
theorem nX(h:nW N p):∀f l r,x9 N (λ_=>True) (kas_place p k f l r)
 | 0,_,_=>trivial
 |f+1,l,r=>by
  unfold kas_place;by_cases e:l ≥ r
  . rw[fN e];exact trivial
  .
   rw[fR e];refine⟨h.at _,h.at _,λb=>?_⟩
   cases b with
   |true=>exact nX h f _ _
   |false=>exact nX h f _ _
theorem DK:∀f p k,nW N p->x9 N (λ_=>True) (kas_bin f p k)
 | 0,_,_,_=>trivial
 |f+1,p,k,h=>(nX h _ _ _).bind λl _=>DK f _ _ (h.bub _ _)
theorem JR{n:Nat}(h:0<n):x9 n (λ_=>True) (kas_sort n):=by
 refine (DG (p:=(List.range n).toArray) ⟨h,λx hx=>by simpa using hx⟩).bind λr hr=>?_
 by_cases e:r.1<n
 . rw[fN e];exact DK _ _ _ hr
 . rw[fR e];exact trivial
end
open L2 PySem.W
section
variable{α:Type}{key:Nat->α}
noncomputable def dG(s:Shared)(a:Addr)(vs:List Value):Shared:={ s with heap:=((s.heap.update a (Obj.mapSeq λ_=>#[])).push (seqObj "tuple" vs.toArray 0)).push (seqObj "list" #[] 0)}
theorem ud(hb:b≠a)(h:s.heap.get? b=some o):(dG s a vs).heap.get? b=some o:=
 bP _ (bP _ ((i9 s.heap _ hb.symm).trans h))
theorem DN(ho:s.heap.get? a=some (seqObj "list" vs.toArray n))(h2:2<=vs.length)(h64:vs.length<64)
  (hk:∀Q:SortKind->Shared->Prop,Q κ (dG s a vs)->wpAny (model prog w) A (keyKind' vs.toArray) Q (λ_ _=>False) (dG s a vs))
  (hc:∀i j C,i<vs.length->j<vs.length->C (lW O key i j) (dG s a vs)->kas_ask prog w A κ vs i j C (dG s a vs))
  (h:∀p:Array Nat,p.Perm (List.range vs.length).toArray->iS O key p vs.length->P (.done (.ret .none)) { s with heap:=sortedHeap s.heap a vs (p.toList.map λi=>vs.getD i Value.none).toArray}) :
  wpAny (model prog w) A (Builtin.«list.sort» ⟨[.ref a],[]⟩) P E s:=by
 obtain⟨e1,Mt⟩:∃e1,(s.heap.update a (Obj.mapSeq λ_=>#[])).get? a=some (seqObj "list" #[] e1):=⟨_,get?_update_seq ho (λ_=>#[])⟩
 have V3:(dG s a vs).heap.get? a=some (seqObj "list" #[] e1):=bP _ (bP _ Mt);have hz:vs.length<=sizeLine:=(by rw[l5];lia)
 rw[list_sort_plain];refine aS (listItems_at ho rfl (aS (listUpdate_at ho rfl (aS (seqEpoch_at Mt rfl (aS (wpAny_newTuple (aS (A4 (mB ?_) (wE _))) (by show vs.length<=_;exact hz))))) (by simpa using hz) (wE _))))
 show wpAny (model prog w) A _ P E (dG s a vs);have hn : ¬ vs.toArray.size<2:=by rw[dC];lia
 dsimp only;rw[fR hn,fR hn];refine aS (lS (hk (λk s0=>k=κ/\s0=dG s a vs) ⟨rfl,rfl⟩) ?_ λ_ _ z=>z.elim)
 rintro _ _ ⟨rfl,rfl⟩;obtain⟨p0,q1,q2,q3⟩:=JQ (O:=O) (key:=key) (n:=vs.length) ⋯;refine aS (lS (kat_run (ks:=vs) (vs:=vs) (E:=E) (Q:=λst' s'=>s'=dG s a vs/\failedOf st'=none/\(arrOf st').map (·.2)=(p0.toList.map λi=>vs.getD i Value.none).toArray) (G:=λp s'=>s'=dG s a vs/\p=p0)
  rfl h2 h64 (λp st' s' _ har hf hg=>?_) (tZ hc _ (JR ⋯) ⟨rfl,q1⟩)) ?_ λ_ _ z=>z)
 . obtain⟨rfl,rfl⟩:=hg;exact⟨rfl,hf,kat_snds rfl har⟩
 .
  rintro⟨⟨⟩,st'⟩ s' ⟨rfl,hf,hout⟩;dsimp only at hf hout ⊢
  have aJ:(p0.toList.map λi=>vs.getD i Value.none).length=vs.length:=by rw[eR,mM,q2.size_eq];simp
  rw[hout];refine aS (seqEpoch_at V3 rfl (aS (listUpdate_at V3 rfl ?_ (wE _) (by show (List.toArray _).size<=_;rw[dC,aJ];lia))))
  rw[hf];simp only[bne_self_eq_false,AB,CF];exact dL (h p0 q2 q3)
theorem yc{β:Type}:∀l:List β,(l.zip l).map (·.2)=l
 | []=>rfl
 |x::l=>by rw[AV,List.map_cons,yc l]
theorem DP(ho:s.heap.get? a=some (seqObj "list" vs.toArray n))(h2:vs.length<2)
  (h:P (.done (.ret .none)) { s with heap:=sortedHeap s.heap a vs vs.toArray}):wpAny (model prog w) A (Builtin.«list.sort» ⟨[.ref a],[]⟩) P E s:=by
 obtain⟨e1,Mt⟩:∃e1,(s.heap.update a (Obj.mapSeq λ_=>#[])).get? a=some (seqObj "list" #[] e1):=⟨_,get?_update_seq ho (λ_=>#[])⟩
 have V3:(dG s a vs).heap.get? a=some (seqObj "list" #[] e1):=bP _ (bP _ Mt);have hz:vs.length<=sizeLine:=(by rw[l5];lia)
 rw[list_sort_plain];refine aS (listItems_at ho rfl (aS (listUpdate_at ho rfl (aS (seqEpoch_at Mt rfl (aS (wpAny_newTuple (aS (A4 (mB ?_) (wE _))) (by show vs.length<=_;exact hz))))) (by simpa using hz) (wE _))))
 show wpAny (model prog w) A _ P E (dG s a vs);have hn:vs.toArray.size<2:=by rw[dC];lia
 dsimp only;rw[fN hn,fN hn];refine aS (dL ?_);rw[StateT.run_pure];refine aS (dL ?_);dsimp only;have hout:(arrOf (SortSt.mk' general' (vs.toArray.zip vs.toArray) #[] 7 none)).map (·.2)=vs.toArray:=by show (vs.toArray.zip vs.toArray).map (·.2)=vs.toArray;apply Array.toList_inj.mp;simp only[Array.toList_map,Array.toList_zip,List.toList_toArray];exact yc vs
 rw[hout];refine aS (seqEpoch_at V3 rfl (aS (listUpdate_at V3 rfl ?_ (wE _) (by show vs.toArray.size<=_;rw[dC];lia))))
 show wpAny _ _ (if (e1 != e1)=true then _ else _) _ _ _
 rw[fR ⋯];exact dL h
noncomputable def DQ(h:Heap)(vs:List Value):Heap:=((h.push (seqObj "list" #[] 0)).update h.objs.size (Obj.mapSeq (· ++ vs.toArray))).push (seqObj "list" vs.toArray 0)
theorem qo(h:Heap)(vs:List Value):((h.push (seqObj "list" #[] 0)).update h.objs.size (Obj.mapSeq (· ++ vs.toArray))).objs.size=h.objs.size+1:=(BQ ..).trans (size_push' ..)
theorem rL(h:Heap)(vs:List Value):(DQ h vs).get? (h.objs.size+1)=some (seqObj "list" vs.toArray 0):=by have:=eD ((h.push (seqObj "list" #[] 0)).update h.objs.size (Obj.mapSeq (· ++ vs.toArray))) (o:=seqObj "list" vs.toArray 0) rfl;rw[qo]at this;exact this
theorem uf(e:h.get? b=some o):(DQ h vs).get? b=some o/\b≠h.objs.size+1:=by have hb:b<h.objs.size:=eJ e;refine⟨bP _ ?_,i5 (Nat.lt_succ_of_lt hb)⟩;rw[i9 _ _ (y6 hb)];exact bP _ e
theorem zR(hl:s.heap.IsList l vs.toArray\/IsTup s.heap l vs.toArray)(hz:vs.length<=sizeLine)
  (h:wpAny (model prog w) A.in1.in1 (Builtin.«list.sort» ⟨[.ref (s⁻¹+1)],[]⟩) (λf s'=>f=.done (.ret .none)/\Q (.ref (s⁻¹+1)) s') E { s with heap:=DQ s.heap vs}) :
  wpAny (model prog w) A (call (.builtin "sorted") [.ref l]) Q E s:=by
 refine Calls.call_function_entry kind_sorted plain_sorted entry_sorted (args_sorted1 _) ?_;unfold Builtin.«sorted»;have go:wpAny (model prog w) A.in1 (collect (.ref l)) (λvs' s'=>vs'=vs/\s'={ s with heap:=(s.heap.push (seqObj "list" #[] 0)).update s⁻¹ (Obj.mapSeq (· ++ vs.toArray))}) E s:=by
  rcases hl with hl |hl
  . exact collect_list hl ⟨rfl,rfl⟩ hz
  . exact e9 hl ⟨rfl,rfl⟩ hz
 refine aS (m:=checkCount "sorted" 1 1 _) (dL (aS (lS go ?_ λ_ _ z=>z)))
 rintro _ _ ⟨rfl,rfl⟩;refine aS (A4 ?_ hz);show wpAny _ _ _ _ _ { s with heap:=DQ s.heap _};rw[qo];refine aS (mB (rV slot_list_sort ⟨_,rL _ _,rfl⟩ entry_list_sort (lS h (λf s' hf=>⟨_,hf.1,?_⟩) λ_ _ z=>z) (args_list_sort _)))
 exact dL ⟨_,rfl,hf.2⟩
end
theorem kr:∀a:List Int,HT.lexLt a a=false
 | []=>rfl
 |x::a=>by rw[HT.dD,fN rfl,kr a]
theorem ug:∀a b c:List Int,HT.lexLt a b=true->HT.lexLt b c=true->HT.lexLt a c=true
 | [],[],_,h,_=>by cases h
 |_::_,[],_,h,_=>by cases h
 |_,_::_,[],_,h=>by cases h
 | [],_::_,_::_,_,_=>rfl
 |x::a,y::b,z::c,h1,h2=>by
  rw[HT.dD]at h1 h2 ⊢
  by_cases e1:x=y
  .
   rw[fN e1]at h1;subst e1;by_cases e2:x=z
   .
    rw[fN e2]at h2 ⊢
    exact ug a b c h1 h2
   .
    rw[fR e2]at h2 ⊢
    exact h2
  .
   rw[fR e1]at h1;have h1':=kA h1;by_cases e2:y=z
   . rw[fN e2]at h2;subst e2;rw[fR e1];exact h1
   . rw[fR e2]at h2;have h2':=kA h2;rw[fR ⋯];exact u8 ⋯
theorem ku:∀a b:List Int,HT.lexLt a b=false->HT.lexLt b a=false->a=b
 | [],[],_,_=>rfl
 | [],_::_,h,_=>by cases h
 |_::_,[],_,h=>by cases h
 |x::a,y::b,h1,h2=>by
  rw[HT.dD]at h1 h2;by_cases e:x=y
  . subst e;rw[fN rfl]at h1 h2;rw[ku a b h1 h2]
  .
   rw[fR e]at h1;rw[fR (λz=>e z.symm)]at h2
   have:=of_decide_eq_false h1;have:=of_decide_eq_false h2;lia
def dO:jQ (List Int):=⟨HT.lexLt,kr,ug,ku⟩
section
variable{α:Type}(O:jQ α)
noncomputable def zS(a:α):List α->List α
 | []=>[a]
 |b::l=>if O.lt b a then b::zS a l else a::b::l
def bM:List α->List α
 | []=>[]
 |a::l=>zS O a (bM l)
variable{O}
theorem kB(a:α):∀l:List α,(zS O a l).Perm (a::l)
 | []=>x5 _
 |b::l=>by
  unfold zS;split
  . exact ((kB a l).cons b).trans (List.Perm.swap a b l)
  . exact x5 _
theorem bT:∀l:List α,(bM O l).Perm l
 | []=>x5 _
 |a::l=>(kB a _).trans ((bT l).cons a)
theorem lA(a:α):∀{l:List α},l.Pairwise O.le->(zS O a l).Pairwise O.le
 | [],_=>List.pairwise_singleton _ _
 |b::l,h=>by
  obtain⟨h1,h2⟩:=nS.mp h;unfold zS;cases e:O.lt b a with
  |true=>
   rw[fN rfl];refine nS.mpr ⟨λx hx=>?_,lA a h2⟩
   rcases d0.mp ((kB a l).mem_iff.mp hx)with rfl |hx
   . exact jQ.le_of_lt e
   . exact h1 x hx
  |false=>
   rw[fR i7];refine nS.mpr ⟨λx hx=>?_,h⟩
   rcases d0.mp hx with rfl |hx
   . exact e
   . exact jQ.qm (show O.le a b from e) (h1 x hx)
theorem fW:∀l:List α,(bM O l).Pairwise O.le
 | []=>List.Pairwise.nil
 |a::l=>lA a (fW l)
theorem vV(hp:m.Perm l)(hs:m.Pairwise O.le):m=bM O l:=
 (hp.trans (bT l).symm).eq_of_pairwise (λx y _ _ h1 h2=>jQ.x6 h1 h2) hs (fW l)
theorem eF{β:Type}(ks:List β)(d:β):(List.range ks.length).map (λi=>ks.getD i d)=ks:=by
 refine List.ext_getElem ⋯ λi h1 h2=>?_
 simp[pV h2]
theorem uh(hp:p.Perm (List.range ks.length).toArray)(hr:iS O (λi=>ks.getD i d) p ks.length):p.toList.map (λi=>ks.getD i d)=bM O ks:=by
 have hl:=AJ.mp hp;refine vV ((hl.map _).trans (by rw[List.toList_toArray,eF])) ?_
 rw[List.pairwise_iff_getElem];intro i j hi hj hij;have hs:p.size=ks.length:=by rw[hp.size_eq];simp
 rw[eR,mM]at hi hj;have:=hr i j (Cn hij) ⋯;unfold dI at this;have e1:p.getD i 0=p[i]:=by simp[Array.getD,hi]
 have e2:p.getD j 0=p[j]:=by simp[Array.getD,hj]
 rw[e1,e2]at this;simpa using this
end
open L2 PySem.W
section
theorem DR(hv:IntsAre vs ns):∀{ws:List Value}{ms:List Int} (i:Nat),IntsAre ws ms->fin=decide (ns.length<ms.length)->Q (HT.lexLt ns ms) s->KatLex prog w A true fin Q (vs.zip ws) i s:=by
 induction hv with
 |nil=>
  intro ws ms i hu hf h;rw[List.zip_nil_left];refine kat_nil ?_;rw[hf];cases hu with
  |nil=>exact h
  |cons _=>exact h
 |@cons n t vs ns hv ih=>
  intro ws ms i hu hf h;cases hu with
  |nil=>rw[List.zip_nil_right];refine kat_nil ?_;rw[hf];exact h
  |@cons m t' us ms hu=>
   rw[AV];refine kat_cons (wpAny_eqBool_int (kat_go (λe=>?_) (λe=>?_)))
   .
    have e':n=m:=eq_of_beq e;refine kat_yes (ih (i+1) hu (by rw[hf];simp) ?_)
    rw[HT.dD,fN e']at h;exact h
   .
    have e':n≠m:=λq=>by rw[q]at e;simp at e
    rw[HT.dD,fR e']at h;refine kat_no ?_;cases i with
    |zero=>exact oneLt_int h
    |succ i=>exact kat_one _ _ (lt_int h)
def DS(h:Heap)(v:Value)(ns:List Int):Prop:=∃a items,v=.ref a/\IsTup h a items/\IntsAre items.toList ns
theorem DS.keep(x:DS h v ns)(k:∀b o,h.get? b=some o->h'.get? b=some o):DS h' v ns:=let ⟨a,its,e,t,i⟩:=x;⟨a,its,e,t.keeps k,i⟩
inductive TupIs(h:Heap):List Value->List (List Int)->Prop
 |nil:TupIs h [] []
 |cons {v:Value}{ns:List Int}{vs:List Value}{dQ:List (List Int)}:DS h v ns->TupIs h vs dQ->TupIs h (v::vs) (ns::dQ)
theorem TupIs.keep(k:∀b o,h.get? b=some o->h'.get? b=some o)(t:TupIs h vs dQ):TupIs h' vs dQ:=by
 induction t with
 |nil=>exact .nil
 |cons a b ih=>exact .cons (a.keep k) ih
theorem TupIs.length(t:TupIs h vs dQ):vs.length=dQ.length:=by
 induction t with
 |nil=>rfl
 |cons a b ih=>exact congrArg (· + 1) ih
theorem TupIs.at(t:TupIs h vs dQ)(hi:i<vs.length):DS h (vs.getD i .none) (dQ.getD i []):=by
 induction t generalizing i with
 |nil=>exact absurd hi (AZ _)
 |cons a b ih=>cases i with
  |zero=>exact a
  |succ i=>exact ih (At hi)
theorem TupIs.firsts(t:TupIs h vs dQ)(iC:∀ns∈dQ,ns≠[]):∃fs:List Value,KatTups h vs fs/\fs.length=vs.length/\∀v∈fs,∃i t,v=.int i t:=by
 induction t with
 |nil=>exact⟨[],.nil,rfl,λ_ z=>nomatch z⟩
 |@cons v ns vs dQ a b ih=>
  obtain⟨fs,q1,q2,q3⟩:=ih λns hn=>iC ns (b0 _ hn)
  obtain⟨a,items,e,⟨o,e1,e2,n,e3⟩,hi⟩:=a;subst e;obtain⟨items⟩:=items;cases items with
  |nil=>
   cases ns with
   |nil=>exact absurd rfl (iC [] dA)
   |cons _ _=>cases hi
  |cons v items=>
   cases ns with
   |nil=>cases hi
   |cons m ns=>cases hi;exact⟨_::fs,KatTups.cons e1 e2 e3 rfl q1,by rw[kS,kS,q2],λv hv=>(d0.mp hv).elim (λz=>⟨_,_,z⟩) (q3 v)⟩
theorem zT:Looks M h (typeOf (.int i t)) (.type "int"):=.now
theorem um(hl:s.heap.IsList l vs.toArray\/IsTup s.heap l vs.toArray)(ht:TupIs s.heap vs dQ)(iC:∀ns∈dQ,ns≠[])(h64:vs.length<64)
  (h:∀p:List Nat,p.Perm (List.range vs.length)->p.map (λi=>dQ.getD i [])=bM dO dQ->Q (.ref (s⁻¹+1)) { s with heap:=sortedAll s.heap vs (p.map λi=>vs.getD i Value.none).toArray}) :
  wpAny (model prog w) A (call (.builtin "sorted") [.ref l]) Q E s:=by
 have hz:vs.length<=sizeLine:=by rw[l5];lia
 refine zR hl hz ?_;have aJ:=ht.length;by_cases h2:vs.length<2
 .
  refine DP (rL _ _) h2 ⟨rfl,?_⟩;have:=h (List.range vs.length) (x5 _) (by
   rw[aJ,eF]
   match dQ,aJ with
   | [],_=>rfl
   | [x],_=>rfl
   |_::_::_,hl2=>rw[hl2,kS,kS]at h2;lia)
  rw[eF]at this;exact this
 .
  have keep:∀b o,s.heap.get? b=some o->(dG { s with heap:=DQ s.heap vs} (s⁻¹+1) vs).heap.get? b=some o:=λb o e=>ud (uf (vs:=vs) e).2 (uf e).1
  have ht':=ht.keep keep;refine DN (κ:=tuples' true) (O:=dO) (key:=λi=>dQ.getD i []) (rL _ _) ⋯ h64 (λQ' hq=>?_) (λi j C hi hj hC=>?_) λp hp hr=>⟨rfl,?_⟩
  . obtain⟨fs,q1,q2,q3⟩:=ht'.firsts iC;exact kat_kind (T:=.type "int") q1 ⋯ (λv hv=>by obtain⟨i,t,rfl⟩:=q3 v hv;exact zT) ⋯ hq
  . obtain⟨a,its,e,⟨o,e1,e2,n,e3⟩,q⟩:=ht'.at hi;obtain⟨b,jY,e',⟨o2,e4,e5,n2,e6⟩,q'⟩:=ht'.at hj;show wpAny _ _ (keyLt' (tuples' true) (vs.getD i Value.none) (vs.getD j Value.none)) C _ _;rw[e,e'];refine kat_lt e1 e3 e4 e6 (DR q 0 q' ?_ hC);rw[<- q.length,<- q'.length];simp
  . rw[aJ]at hp hr;exact h p.toList (by rw[aJ];exact (AJ.mp hp).trans ⋯) (uh hp hr)
end
section
def nY:List D->Option (List (List Int))
 | []=>some []
 |.tup l::ds=>match bL l,nY ds with |some (n::ns),some dQ=>some ((n::ns)::dQ) |_,_=>none
 |_::_=>none
inductive lB(K:Frag)(H:Hp):List V->List (List Int)->Prop
 |nil:lB K H [] []
 |cons {a:Addr}{ns:List Int}{vs:List V}{dQ:List (List Int)}:gi K H a (ns.map V.int)->lB K H vs dQ->lB K H (.ref a::vs) (ns::dQ)
theorem lB.real(I:L2.Inv X ah σ H s)(t:lB X.K H xs dQ):∀{its:List Value},Vals xs its->TupIs s.heap its dQ:=by
 induction t with
 |nil=>intro its r;cases r;exact .nil
 |cons q _ ih=>
  intro its r;cases r with
  |cons r rs=>cases r;obtain⟨jY,r2,p,_⟩:=I.tuple q;exact .cons ⟨_,_,rfl,p,by simpa using intsAre_of r2⟩ (ih rs)
theorem zU(h:Vals xs us):∀{i:Nat},i<xs.length->RelV (xs.getD i .non) (us.getD i .none):=by
 induction h with
 |nil=>intro i hi;exact absurd hi (AZ _)
 |cons r _ ih=>
  intro i hi;cases i with
  |zero=>exact r
  |succ i=>exact ih (by simpa using hi)
theorem qq(h:Vals xs us):∀{p:List Nat},(∀i∈p,i<xs.length)->Vals (p.map λi=>xs.getD i .non) (p.map λi=>us.getD i .none)
 | [],_=>.nil
 |i::p,hp=>.cons (zU h (hp i dA)) (qq h λj hj=>hp j (b0 _ hj))
theorem rM:eV X (.builtin "sorted") (λxs H Q=>∃p ys dQ,xs=[.ref p]/\(bX X.K H p ys\/gi X.K H p ys)/\lB X.K H ys dQ/\(∀ns∈dQ,ns≠[])/\ys.length<64/\
  ∀q (o:List Nat),H q=none->(∀i∈o,i<ys.length)->o.map (λi=>dQ.getD i [])=bM dO dQ->Q (.ref q) (upd H q (.lst (o.map λi=>ys.getD i .non)))):=by
 intro ah s σ H xs us Q I r h;obtain⟨p,ys,dQ,rfl,hq,ht,iC,hl,q⟩:=h;obtain⟨u,rfl,rx⟩:=vals1 r;cases rx;have fin:∀its:List Value,Vals ys its->(s.heap.IsList p its.toArray\/IsTup s.heap p its.toArray)->wpAny (model X.prog X.w) X.A (call (.builtin "sorted") [.ref p]) (EP X ah σ Q) X.xe s:=λits r' pl=>by
  have aJ:=r'.length;refine um pl (ht.real I r') iC ⋯ λo ho hs=>?_
  obtain⟨ep,he⟩:=sortedAll_at s.heap its (o.map λi=>its.getD i Value.none).toArray
  have hin:∀i∈o,i<ys.length:=λi hi=>by rw[aJ];exact tP.mp (ho.mem_iff.mp hi)
  have Yk:o.length=ys.length:=by rw[ho.length_eq,BF,aJ]
  refine⟨.ref (s⁻¹+1),_,I.laid (t':=s.toks) (o:=.lst (o.map λi=>ys.getD i .non)) (λb ob e=>sortedAll_old e) (AC _) ?_,rfl,q _ o (I.hok.fresh (AC _)) hin hs⟩
  refine⟨by rw[eR,l5];lia,_,ep,qq r' hin,he⟩
 rcases hq with hq |hq
 . obtain⟨its,r',pl,hz⟩:=I.list hq;exact fin its r' (.inl pl.isList)
 . obtain⟨its,r',pl,hz⟩:=I.tuple hq;exact fin its r' (.inr pl)
theorem JT(e:bL l=some ns):l=ns.map .int:=by
 induction l generalizing ns with
 |nil=>cases e;rfl
 |cons d l ih=>cases d with
  |int i=>
   have e:(match bL l with |some ns=>some (i::ns) |none=>none)=some ns:=e
   cases e2:bL l with
   |none=>rw[e2]at e;cases e
   |some ms=>rw[e2]at e;cases e;rw[List.map_cons,<- ih e2]
  |_=>cases e
theorem zV{K:Frag}{M:List Addr}{H:Hp}{l:List D}{xs:List V}{dQ:List (List Int)}(q:aH K M H l xs)(e:nY l=some dQ):lB K H xs dQ/\(∀ns∈dQ,ns≠[])/\l=dQ.map λns=>.tup (ns.map .int):=by
 induction l generalizing xs dQ with
 |nil=>cases q;cases e;exact⟨.nil,λ_ z=>(nomatch z),rfl⟩
 |cons d l ih=>cases q with |cons r q=>cases d with
  |tup m=>
   unfold nY at e;split at e
   .
    rename_i n ns dQ e1 e2;cases e;obtain⟨t1,t2,t3⟩:=ih q e2;cases r with
    |tup ha rr=>
     have:=bz rr e1;subst this;refine⟨.cons ha.sq t1,λx hx=>(d0.mp hx).elim (λz=>by rw[z];exact List.cons_ne_nil _ _) (t2 x),?_⟩
     rw[List.map_cons,<- t3,JT e1]
   . cases e
  |_=>cases e
theorem aH.pick{K:Frag}{M:List Addr}{H:Hp}{ds:List D}{vs:List V}(h:aH K M H ds vs):∀{o:List Nat},(∀i∈o,i<vs.length)->aH K M H (o.map λi=>ds.getD i .non) (o.map λi=>vs.getD i .non)
 | [],_=>.nil
 |i::o,ho=>by
  refine .cons ?_ (h.pick λj hj=>ho j (b0 _ hj))
  have hi:=ho i dA;have hd:i<ds.length:=by rw[h.length];exact hi
  obtain⟨v,e1,e2⟩:=h.get (i:=i) (d:=ds[i]) (by simp[hd])
  have q1:ds.getD i .non=ds[i]:=by simp[hd]
  have q2:vs.getD i .non=v:=by rw[w8,e1];rfl
  show Rep K M H (ds.getD i .non) (vs.getD i .non);rw[q1,q2];exact e2
theorem vW{d:D}{l:List D}{dQ:List (List Int)}(hK:z.K=X.K)(h:dF d=some l)(hi:nY l=some dQ)(hl:dQ.length<64):CallD X z (.builtin "sorted") [d] (.new ((bM dO dQ).map λns=>.tup (ns.map .int))):=by
 refine⟨_,rM,λg σ As M H vs Q s p k=>?_⟩
 obtain⟨v,rfl,pv⟩:=p.one;have main:∀(a:Addr) (xs:List V),aH z.K M H l xs->(bX X.K H a xs\/gi X.K H a xs)->∃p ys dQ,[V.ref a]=[.ref p]/\(bX X.K H p ys\/gi X.K H p ys)/\lB X.K H ys dQ/\(∀ns∈dQ,ns≠[])/\ys.length<64/\
   ∀q (o:List Nat),H q=none->(∀i∈o,i<ys.length)->o.map (λi=>dQ.getD i [])=bM dO dQ->Q (.ref q) (upd H q (.lst (o.map λi=>ys.getD i .non))):=λa xs rr hq=>by
  obtain⟨t1,t2,t3⟩:=zV rr hi;have aJ:xs.length=dQ.length:=by rw[<- rr.length,t3,eR]
  refine⟨a,xs,dQ,rfl,hq,hK▸t1,t2,by lia,λq o hf hin hs=>?_⟩
  have e:((bM dO dQ).map λns=>D.tup (ns.map .int))=o.map λi=>l.getD i .non:=by
   rw[<- hs,List.map_map];refine sR λi hi=>?_
   have:i<dQ.length:=by rw[<- aJ];exact hin i hi
   rw[t3];simp[this]
  have rr':=(rr.pick hin).stay (aq.aN (o:=.lst (o.map λi=>xs.getD i .non)) hf)
  refine k _ _ As (q::M) (s.aN hf) (aq.aN hf) ⟨q,_,rfl,dA,λhA=>s.fresh hf (s.sub q hA),s.bR hf,az,?_⟩
  rw[e];exact rr'
 cases d with
 |lst m=>cases h;obtain⟨a,xs,rfl,e1,e2⟩:=pv.list;exact main a xs e2 (.inl (bX.of e1))
 |tup m=>cases h;obtain⟨a,xs,rfl,e1,e2⟩:=pv.tup;exact main a xs e2 (.inr (hK▸e1.sq))
 |fix m=>cases h;obtain⟨a,xs,rfl,e1,e2⟩:=pv.fix;exact main a xs e2 (.inl (hK▸e1.sq))
 |_=>cases h
end
open L2 PySem.W
section
variable{X:Cx}{z:Z}
theorem DT(hK:z.K=X.K)(h:dF d=some l)(hi:bL l=some ns)(pv:Pk z.K M H d v):∃a,v=.ref a/\(bX X.K H a (ns.map V.int)\/gi X.K H a (ns.map V.int)):=by
 cases d with
 |lst m=>cases h;obtain⟨a,xs,rfl,e1,e2⟩:=pv.list;have:=bz e2 hi;subst this;exact⟨a,rfl,.inl (bX.of e1)⟩
 |tup m=>cases h;obtain⟨a,xs,rfl,e1,e2⟩:=pv.tup;have:=bz e2 hi;subst this;exact⟨a,rfl,.inr (hK▸e1.sq)⟩
 |fix m=>cases h;obtain⟨a,xs,rfl,e1,e2⟩:=pv.fix;have:=bz e2 hi;subst this;exact⟨a,rfl,.inl (hK▸e1.sq)⟩
 |_=>cases h
end
open L2 PySem.W
open L2 PySem.W SeqAt
open L2 PySem.W SeqAt
section
theorem uo{prog:Program}{w:World}{A:Around}{E:Value->Shared->Prop}{s:Shared}{l:Addr}{vs:List Value}{ns:List Int}{b:Bool}{Q:Value->Shared->Prop}(hl:IsTup s.heap l vs.toArray)(hI:IntsAre vs ns)(h64:vs.length<64)
  (k:∀(out:Array Value) (ns':List Int),IntsAre out.toList ns'->ns'.Perm ns->Ordered b ns'->Q (.ref (s⁻¹+1)) { s with heap:=sortedAll s.heap vs out}) :
  wpAny (model prog w) A (call (.builtin "sorted") [.ref l] [(Str.ofString "reverse",.bool b)]) Q E s:=by
 refine call_function_entry_kw kind_sorted plain_sorted entry_sorted (args_sorted_rev _ _) ?_;unfold Builtin.«sorted»;refine aS (m:=checkCount "sorted" 1 1 _) (dL (aS (e9 hl (aS (A4 ?_)) (by rw[l5];lia))))
 have z:((s.heap.push (seqObj "list" #[] 0)).update s⁻¹ (Obj.mapSeq (· ++ vs.toArray))).objs.size=s⁻¹+1:=by rw[BQ,size_push']
 have o:(((s.heap.push (seqObj "list" #[] 0)).update s⁻¹ (Obj.mapSeq (· ++ vs.toArray))).push (seqObj "list" vs.toArray 0)).get? (s⁻¹+1)=some (seqObj "list" vs.toArray 0):=z▸eD _ rfl;show wpAny _ _ _ _ _ { s with heap:=((s.heap.push (seqObj "list" #[] 0)).update s⁻¹ (Obj.mapSeq (· ++ vs.toArray))).push (seqObj "list" vs.toArray 0)};rw[z];exact aS (mB (wpAny_call_entry_kw slot_list_sort ⟨_,o,rfl⟩ entry_list_sort (list_sort_tree_rev o hI h64 λout ns' a1 a2 a3=>⟨_,rfl,dL ⟨_,rfl,k out ns' a1 a2 a3⟩⟩) (args_list_sort_rev _ _)))
theorem vX{prog:Program}{w:World}{A:Around}{E:Value->Shared->Prop}{s:Shared}{l:Addr}{vs:List Value}{ns:List Int}{b:Bool}{Q:Value->Shared->Prop}(hl:s.heap.IsList l vs.toArray\/IsTup s.heap l vs.toArray)(hI:IntsAre vs ns)(h64:vs.length<64)
  (k:∀(out:Array Value) (ns':List Int),IntsAre out.toList ns'->ns'.Perm ns->Ordered b ns'->Q (.ref (s⁻¹+1)) { s with heap:=sortedAll s.heap vs out}) :
  wpAny (model prog w) A (call (.builtin "sorted") [.ref l] [(Str.ofString "reverse",.bool b)]) Q E s:=hl.elim (λh=>sorted_ints_rev h hI h64 k) λh=>uo h hI h64 k
theorem vY{r:R}{d:D}{l:List D}{ns:List Int}{j:Nat}(hK:z.K=X.K)(ha:cQ X z [e] g [r] g1)(hp:pk r g1=some d)(hs:dF d=some l)(hi:bL l=some ns)(hl:ns.length<64)
  (hg:Gl X "sorted") (hm:X.mg "sorted"=none) (dj:starEach [e] X.env=(false,eval e X.env)::starEach [] X.env) :
  aB X z (.Call (.Name "sorted" p) [e] [⟨some "reverse",.Constant (.bool true) j kp,kpos⟩] pos) g (.new ((bw ns).reverse.map .int)) g1:=by
 refine aB.of λah s σ As M H Post I st k=>?_
 refine oS (fO I hg hm (by rfl:bootBuiltins ("sorted":Str)=some (.builtin "sorted")) (callWith_kw ?_ (by rw[dj];rfl) (by rw[dj];rfl)))
 refine ha.run I st λvs us s1 H1 aO M1 I1 r1 q1 q2 q3=>?_
 have tK:=q1.tK q3 (ds:=[d]) (by unfold tK;rw[hp];rfl)
 obtain⟨v1,rfl,Yl⟩:=tK.one;obtain⟨u1,rfl,Z3⟩:=vals1 r1;refine kws_cons (Constant_bool (kws_nil ?_));have hq:∃q,v1=.ref q/\(bX X.K H1 q (ns.map V.int)\/gi X.K H1 q (ns.map V.int)):=by
  obtain⟨q,rfl,h⟩:=DT hK hs hi Yl;cases d with
  |lst m=>obtain⟨a,xs,e0,e1,e2⟩:=Yl.list;cases hs;have:=bz e2 hi;subst this;cases e0;exact⟨_,rfl,.inl (bX.of e1)⟩
  |fix m=>obtain⟨a,xs,e0,e1,e2⟩:=Yl.fix;cases hs;have:=bz e2 hi;subst this;cases e0;exact⟨_,rfl,.inl (hK▸e1.sq)⟩
  |tup m=>obtain⟨a,xs,e0,e1,e2⟩:=Yl.tup;cases hs;have:=bz e2 hi;subst this;cases e0;exact⟨_,rfl,.inr (hK▸e1.sq)⟩
  |_=>cases hs
 obtain⟨q,rfl,hq⟩:=hq;cases Z3;obtain⟨its,rv,pl⟩:∃its:List Value,Vals (ns.map V.int) its/\(s1.heap.IsList q its.toArray\/IsTup s1.heap q its.toArray):=by
  rcases hq with hq |hq
  . obtain⟨its,rv,pl,_⟩:=I1.list hq;exact⟨its,rv,.inl pl.isList⟩
  . obtain⟨its,rv,pl,_⟩:=I1.tuple hq;exact⟨its,rv,.inr pl⟩
 have aJ:=rv.length;rw[eR]at aJ;refine vX (b:=true) pl (intsAre_of rv) ⋯ λout ns' a1 a2 a3=>?_
 have e0:ns'=(bw ns).reverse:=by
  have hr:ns'.reverse.Pairwise (· <= ·):=by rw[BN];exact a3
  have:=fV ((List.reverse_perm ns').trans a2) hr;rw[<- this,List.reverse_reverse]
 subst e0;obtain⟨ep,he⟩:=sortedAll_at s1.heap its out;have hf:H1 (s1⁻¹+1)=none:=I1.hok.fresh (AC _);have hlen2:(bw ns).reverse.length=ns.length:=by rw[sT];exact (bJ ns).length_eq
 refine k (.ref (s1⁻¹+1)) _ _ (upd H1 (s1⁻¹+1) (.lst ((bw ns).reverse.map V.int))) aO ((s1⁻¹+1)::M1) (I1.laid (t':=s1.toks) (o:=.lst ((bw ns).reverse.map V.int)) (λb o e=>sortedAll_old e) (AC _) ?_) rfl (q1.aN hf) (q2.trans (aq.aN hf)) ⟨_,_,rfl,dA,λhA=>q1.fresh hf (q1.sub _ hA),q1.bR hf,az,kj _⟩
 refine⟨by rw[eR,hlen2,l5];lia,out.toList,ep,iG a1,?_⟩
 rw[he]
end
open L2 PySem.W SeqAt
open L2 PySem.W SeqAt
section
theorem jj.of (h:∀(ah:List (Addr×Obj)) (s:Shared) (σ:Sg) (As M:List Addr) (H:Hp) (Post:Value->Shared->Prop),L2.Inv X ah σ H s->S z g σ As M H->
  (∀v s1,(∀(R:It->Hp->Prop),(∀J H' aA M',S z g1 σ aA M' H'->aq M H M' H'->Jt J items z.K M' H'->R J H')->wpAny (model X.prog X.w) X.A (pyIter v) (PIE X ah σ tg R) X.xe s1)->Post v s1)->wpAny (model X.prog X.w) X.A (eval iter X.env) Post X.xe s):jj X z tg iter g items g1:=
 ⟨λσ H R=>∃As M,S z g σ As M H/\(∀J H' aA M',S z g1 σ aA M' H'->aq M H M' H'->Jt J items z.K M' H'->R J H'),λah s σ H R I ⟨As,M,st,k⟩=>h ah s σ As M H _ I st λv s1 q=>q R k,λσ As M H R s k=>⟨As,M,s,k⟩⟩
end
open L2 PySem.W SeqAt
section
theorem vZ(hit:s.heap.IsTupleIter it t i)(ht:s.heap.IsTuple t items)(hx:items[i]?=some x)(hQ:∀h',h'.IsTupleIter it t (i+1)->Heap.SameBut it s.heap h'->Q x { s with heap:=h'}):wpAny (model prog w) A (Builtin.SmallTypes.nextOf (.ref it)) Q E s:=by
 obtain⟨o,ho,hc,hd⟩:=id hit;obtain⟨ol,Yk,_,nl,hdl⟩:=ht;unfold Builtin.SmallTypes.nextOf;refine aS (oQ (name:=Str.ofString "__next__") hit.typeIs w9 (rV w9 hit.typeIs F.entry_tuple_iterator_next ?_ (F.args_tuple_iterator_next_1 _)));show wpAny _ _ (field (.ref it) 0 >>= _) _ _ s;refine aS (l8 ho hd (x:=.ref t) rfl ?_);show wpAny _ _ (if (Value.ref t==Value.none)=true then _ else _) _ _ s
 rw[fR (show ¬ ((Value.ref t==Value.none)=true)from i7)]
 show wpAny _ _ (field (.ref it) 1 >>= _) _ _ s;refine aS (l8 ho hd (x:=.int i 0) rfl ?_);show wpAny _ _ (seqItems? (.ref t) >>= _) _ _ s;refine aS (yA Yk hdl ?_);simp only[tJ,hx];refine aS (AO ho hd ⋯ (dL ⟨x,rfl,dL (hQ _ ⟨_,t0 _ ho (xL (t8 hd _)),(Obj.cls_mapFields ..).trans hc,?_⟩ (Heap.SameBut.update ..))⟩));rw[t8 hd];simp[rawInt]
theorem pq(hh:A.handled=none)(hit:s.heap.IsTupleIter it t i)(ht:s.heap.IsTuple t items)(hx:items[i]?=none)
  (hE:∀h' e,Heap.ExtBut it s.heap h'->(∃o,h'.get? e=some o/\o.cls=.type "StopIteration")->E (.ref e) { s with heap:=h'}):wpAny (model prog w) A (Builtin.SmallTypes.nextOf (.ref it)) Q E s:=by
 obtain⟨o,ho,hc,hd⟩:=id hit;obtain⟨ol,Yk,_,nl,hdl⟩:=ht;unfold Builtin.SmallTypes.nextOf;refine aS (oQ (name:=Str.ofString "__next__") hit.typeIs w9 (rV w9 hit.typeIs F.entry_tuple_iterator_next ?_ (F.args_tuple_iterator_next_1 _)));show wpAny _ _ (field (.ref it) 0 >>= _) _ _ s;refine aS (l8 ho hd (x:=.ref t) rfl ?_);show wpAny _ _ (if (Value.ref t==Value.none)=true then _ else _) _ _ s
 rw[fR (show ¬ ((Value.ref t==Value.none)=true)from i7)]
 show wpAny _ _ (field (.ref it) 1 >>= _) _ _ s;refine aS (l8 ho hd (x:=.int i 0) rfl ?_);show wpAny _ _ (seqItems? (.ref t) >>= _) _ _ s;refine aS (yA Yk hdl ?_);simp only[tJ,hx];refine aS (wpAny_rule (aS (AO ho hd ⋯ ?_)));show wpAny _ _ (newExc (.type "StopIteration") [] >>= _) _ _ _;refine aS ?_;simp only[newExc,newTuple];refine aS (l7 (aS (m:=firstArgMember _ _) (wpAny_of_eq (a:=Value.none) (by first |rfl | (simp only[firstArgMember];rfl)) (l7 ?_ (by size_fits)))) (by size_fits))
 simp only[raiseNew];refine aS (wpAny_handled ?_)
 first |rw[show A.in1.handled=none from hh] |rw[hh]
 exact aS (dL (wpAny_throw (hE _ _ (((Heap.SameBut.update ..).extBut.push _).push _) ⟨_,eD _ rfl,rfl⟩)))
theorem Qn(hh:A.handled=none)(it t:Addr)(iC:t≠it)(items:Array Value):Draws prog w A it [it,t] items.size (λi v=>items[i]?=some v) (λi h=>h.IsTupleIter it t i/\h.IsTuple t items) where
 live:=λ_ _ st=>let ⟨o,ho,_⟩:=st.1;⟨o,ho⟩
 frame:=λ_ _ _ st hk=>by
  obtain⟨⟨o,ho,r⟩,⟨o',ho',r'⟩⟩:=st;exact⟨⟨o,hk it ⋯ o ho,r⟩,⟨o',hk t ⋯ o' ho',r'⟩⟩
 item:=λi s Q E hi st hQ=>vZ st.1 st.2 (x:=items[i]) (by simp[hi]) λh' Z4 hs'=>hQ _ h' s.toks (by simp[hi]) ⟨Z4,IsTup.extBut st.2 hs'.extBut iC⟩ hs'
 done:=λs Q E st hE=>pq hh st.1 st.2 ⋯ hE
end
open L2 PySem.W SeqAt
def qu(tp:Bool)(K:Frag)(H:Hp)(a:Addr)(xs:List V):Prop:=match tp with |true=>gi K H a xs |false=>bX K H a xs
def Hy(tp:Bool)(h:Heap)(it a:Addr)(i:Nat):Prop:=match tp with |true=>h.IsTupleIter it a i |false=>h.IsListIter it a i
def Ym(tp:Bool)(h:Heap)(a:Addr)(its:List Value):Prop:=match tp with |true=>h.IsTuple a its.toArray |false=>h.IsList a its.toArray
section
theorem qu.real(I:L2.Inv X ah σ H s)(h:qu tp X.K H a xs):∃its:List Value,Vals xs its/\Ym tp s.heap a its/\xs.length<=sizeLine:=by
 cases tp with
 |true=>exact I.tuple h
 |false=>obtain⟨its,r,pl,hz⟩:=I.list h;exact⟨its,r,pl.isList,hz⟩
theorem qu.inj(I:L2.Inv X ah σ H s)(h:qu tp X.K H a xs)(h':qu tp X.K H a ys):xs=ys:=by
 cases tp with
 |true=>exact I.pS h h'
 |false=>exact I.sW h h'
theorem Hy.obj(x:Hy tp h it a i):∃o vs,h.get? it=some o/\o.data=.fields vs:=by
 cases tp with
 |true=>obtain⟨o,e,_,d⟩:=(show h.IsTupleIter it a i from x);exact⟨o,_,e,d⟩
 |false=>obtain⟨o,e,_,d⟩:=(show h.IsListIter it a i from x);exact⟨o,_,e,d⟩
theorem Hy.keep(x:Hy tp h it a i)(k:∀o,h.get? it=some o->h'.get? it=some o):Hy tp h' it a i:=by
 cases tp with
 |true=>obtain⟨o,e,d⟩:=(show h.IsTupleIter it a i from x);exact⟨o,k o e,d⟩
 |false=>obtain⟨o,e,d⟩:=(show h.IsListIter it a i from x);exact⟨o,k o e,d⟩
theorem rO(hh:A.handled=none)(iC:a≠it)(its:List Value):Draws prog w A it [it,a] its.length (λi v=>its[i]?=some v) (λi h=>Hy tp h it a i/\Ym tp h a its):=by
 cases tp with
 |true=>have:=Qn (prog:=prog) (w:=w) hh it a iC its.toArray;simp only[dC,List.getElem?_toArray]at this;exact this
 |false=>have:=Draws.list (prog:=prog) (w:=w) hh it a iC its.toArray;simp only[dC,List.getElem?_toArray]at this;exact this
end
open L2 PySem.W SeqAt
theorem kD:fillsNumberSlot (.type "tuple") "mul"=pure false:=PyProof.Rows.fillsNumberSlot_seq (id:= "tuple.__mul__") (r:=some (.builtin "tuple.__rmul__")) F.slot_tuple_mul.lookup (by decide +kernel) F.slot_tuple_rmul.lookup (by decide +kernel)
theorem rP:seqRepeat? (.type "tuple")=pure (some (.builtin "tuple.__mul__")):=by
 unfold seqRepeat?;rw[PyProof.Rows.seqSlot_of (T:= "tuple") (name:= "__mul__") (id:= "tuple.__mul__") F.slot_tuple_mul.lookup (by decide +kernel),PyProof.Rows.seqSlot_of (T:= "tuple") (name:= "__rmul__") (id:= "tuple.__rmul__") F.slot_tuple_rmul.lookup (by decide +kernel)]
 rfl
theorem nZ(a:Int)(t:Tok)(l:Addr)(items:Array Value)(n:Nat)(dd:Option Addr)(sl:Array (Option Value)) :
  Meets (Builtin.«int.__rmul__» ⟨[.int a t,.ref l],[]⟩) (λ_ R s=>s.heap.get? l=some { cls:=.type "tuple",dict:=dd,data:=.seq items n,slots:=sl}/\R (.ok (.ret Value.notImplemented)) s):=
 .of_wp λprog w A R s h=>by obtain⟨hp,g,d,tk,os⟩:=s;obtain⟨hl,h⟩:=h;wp_walk;exact⟨_,rfl,h⟩
theorem v5(l:Addr)(items:Array Value)(n:Nat)(dd:Option Addr)(sl:Array (Option Value))(k:Int)(t:Tok)(hk:2<=k)(hk2:k<2 ^ 63)(iC:items.isEmpty=false)(hz:items.size * k.toNat<=16777216) :
  Meets (Builtin.«tuple.__mul__» ⟨[.ref l,.int k t],[]⟩)
   (λA R s=>s.heap.get? l=some { cls:=.type "tuple",dict:=dd,data:=.seq items n,slots:=sl}/\R (.ok (.ret (.ref s⁻¹))) { s with heap:=s.heap.push { cls:=.type "tuple",data:=.seq ((List.replicate k.toNat items).foldl (· ++ ·) #[])}}):=
 .of_wp λprog w A R s h=>by
  obtain⟨hp,g,d,tk,os⟩:=s;obtain⟨hl,h⟩:=h
  wp_walk using y0 hl
  have hp0:(items.size:Int) * k=((items.size * k.toNat:Nat):Int):=by rw[Int.natCast_mul,Int.toNat_of_nonneg ⋯]
  rw[fR (by simp only[wS,hU];lia)]
  wp_walk using y0 hl
  rw[fR (by rw[iC];simp only[Bool.false_or,beq_iff_eq];lia)]
  rw[fR (by rw[iC];simp only[Bool.or_false,hU];lia)]
  rw[fR (by rw[hp0];lia)]
  rw[fR (by rw[hp0];unfold Builtin.Tuple.tupleTooMany;simp only[hU];rw[l5];lia)]
  unfold Builtin.Tuple.tupleExact;refine aS (l7 (dL ⟨_,rfl,h⟩) ?_);have:=foldl_rep items.toList k.toNat [];simp only[v6,Array.toArray_toList]at this;show (List.foldl (λx1 x2=>x1++x2) #[] (List.replicate k.toNat items)).size<=sizeLine
  rw[this,dC,len_rep,mM,l5,Nat.mul_comm];exact hz
theorem v7(l:Addr)(items:Array Value)(n:Nat)(dd:Option Addr)(sl:Array (Option Value))(k:Int)(t:Tok)(hk : -(2 ^ 63)<=k/\k<2 ^ 63)(iC:(items.isEmpty||k==1)=true) :
  Meets (Builtin.«tuple.__mul__» ⟨[.ref l,.int k t],[]⟩)
   (λA R s=>s.heap.get? l=some { cls:=.type "tuple",dict:=dd,data:=.seq items n,slots:=sl}/\R (.ok (.ret (.ref l))) s):=
 .of_wp λprog w A R s h=>by
  obtain⟨hp,g,d,tk,os⟩:=s;obtain⟨hl,h⟩:=h
  wp_walk using y0 hl
  rw[fR (by simp only[wS,hU];lia)]
  wp_walk using y0 hl
  exact⟨_,rfl,h⟩
section
def V4(K:Frag):R2:=λx y H Q=>∃a k xs,x=.ref a/\y=.int k/\gi K H a xs/\1<=k/\k<2 ^ 63/\xs.length * k.toNat<=16777216/\
 ((xs=[]\/k=1)->Q (.ref a) H)/\(xs≠[]->2<=k->∀p,H p=none->Q (.ref p) (upd H p (.tup (List.replicate k.toNat xs).flatten)))
theorem JV:k9 X (binaryOp .Mult) (V4 X.K):=by
 intro ah s σ H x y v u Q I rx ry h;obtain⟨a,k,xs,rfl,rfl,ha,h1,h2,hz,q1,q2⟩:=h;cases rx;obtain⟨t,rfl⟩:=ry;obtain⟨its,rv,⟨⟨cls,dd,data,sl⟩,ho,hc,n,hd⟩,_⟩:=I.tuple ha;simp only at hc hd;subst hc hd;have aJ:=rv.length;refine wpAny_binaryOp_repeat_ref (T:= "tuple") (U:= "int") ⋯ ⟨_,ho,rfl⟩ (λs'=>typeIs_int s' k t) kD F.fills_int_mul F.slot_int_rmul rP F.slot_int_index.lookup
  (BB F.slot_int_rmul (typeIs_int s k t) F.entry_int_rmul (F.args_int_rmul_2 _ _) (nZ k t a its.toArray n dd sl) ⟨ho,rfl,⟨_,ho,rfl⟩,?_⟩)
 by_cases hs:xs=[]\/k=1
 .
  have iC:(its.toArray.isEmpty||k==1)=true:=by
   rcases hs with rfl |rfl
   . cases rv;rfl
   . simp
  exact BB F.slot_tuple_mul ⟨_,ho,rfl⟩ F.entry_tuple_mul (F.args_tuple_mul_2 _ _) (v7 a its.toArray n dd sl k t ⟨by lia,h2⟩ iC) ⟨ho,.ref a,H,I,rfl,q1 hs⟩
 .
  have hxs:xs≠[]:=λe=>hs (.inl e)
  have hk1:k≠1:=λe=>hs (.inr e)
  have iC:its.toArray.isEmpty=false:=by
   cases its with
   |nil=>cases rv;exact absurd rfl hxs
   |cons _ _=>rfl
  refine BB F.slot_tuple_mul ⟨_,ho,rfl⟩ F.entry_tuple_mul (F.args_tuple_mul_2 _ _) (v5 a its.toArray n dd sl k t ⋯ h2 iC (by rw[dC,<- aJ];exact hz)) ⟨ho,?_⟩
  have hf:H s⁻¹=none:=I.hok.fresh (d5 _);have e:=foldl_rep its k.toNat [];rw[v6]at e;refine⟨.ref s⁻¹,_,I.laid (t':=s.toks) (o:=.tup (List.replicate k.toNat xs).flatten) (λb o e=>bP _ e) (d5 _) ⟨by rw[len_rep,Nat.mul_comm,l5];exact hz,_,rv.rep k.toNat,?_⟩,rfl,q2 hxs ⋯ _ hf⟩
  have:=eu.new s.heap (List.replicate k.toNat its).flatten.toArray;rw[<- e]at this;rw[<- e];exact this
theorem JW(hK:z.K=X.K)(h1:1<=k)(h2:k<2 ^ 63)(h:l.length * k.toNat<=16777216):lK X z (binaryOp .Mult) (.tup l) (.int k) (.dat (.tup (List.replicate k.toNat l).flatten)):=by
 refine⟨_,JV,λg σ As M H v1 v2 Q s q1 q2 kk=>?_⟩
 obtain⟨a,xs,rfl,ha,ra⟩:=q1.tup;have rr:∀n,aH z.K M H (List.replicate n l).flatten (List.replicate n xs).flatten:=λn=>by
  induction n with
  |zero=>simp;exact .nil
  |succ n ih=>rw[l9,l9,sK,sK];exact ra.append ih
 refine⟨a,k,xs,rfl,q2.int,hK▸ha.sq,h1,h2,by rw[<- ra.length];exact h,λhs=>?_,λ_ _ p hp=>?_⟩
 .
  refine kk _ H As M s (aq.refl _ _) ?_;have e:(List.replicate k.toNat l).flatten=l:=by
   rcases hs with rfl |rfl
   .
    have:l=[]:=by cases ra;rfl
    subst this;simp
   . simp
  rw[e];exact .tup ha ra
 . exact kk _ _ As M (s.laid hp) (aq.laid hp) (.tup (.inl ⟨s.fresh hp,.inl az⟩) ((rr _).stay (aq.laid hp)))
theorem Qo(hc:X.calm=true)(hN:X.N.Nodup)(hi:X.N[i]?=some x)(hj:X.N[j]?=some y)(hij:i≠j)(hx:X.env.scope.names.lookup x=some .local)(hy:X.env.scope.names.lookup y=some .local)
  (ha:cQ X z [a,b] g [.dat d1,.dat d2] g1) (hbi:i∉z.bor) (Z5:j∉z.bor) (hw:swappedStores [.Tuple [.Name x px,.Name y py] kt pt] (.Tuple [a,b] k2 xF) X.env=pure (some [x,y])) (hs:swapsWithSole [.Tuple [.Name x px,.Name y py] kt pt] (.Tuple [a,b] k2 xF) pos.line X.env=pure false) :
  fT X z (.Assign [.Tuple [.Name x px,.Name y py] kt pt] (.Tuple [a,b] k2 xF) pos) g .nx ((g1.set i (.dat d1)).set j (.dat d2)):=by
 obtain⟨t,q,k⟩:=ha;refine⟨_,NZ hc hN hi hj hij hx hy q hw hs,λσ As M H E s kk=>k σ As M H _ s λvs H' aA M' s' st R=>?_⟩
 cases R with
 |dat r R=>
  cases R with
  |dat r' R=>cases R;obtain⟨bu,s2⟩:=s'.fS (i:=i) hbi r;obtain⟨jZ,s3⟩:=s2.fS (i:=j) Z5 r';exact⟨_,_,rfl,kk _ jZ M' H' s3 st⟩
end
end Ev
namespace HT
open PySem PyProof.Rows
section
theorem v8(n:Nat):Builtin.Slice.sliceAdjust none none (-1) (n:Int)=((n:Int) - 1,-1):=rfl
theorem v9(n:Nat):Builtin.Slice.slicePlaces ((n:Int) - 1) (-1) (-1)=n:=by
 unfold Builtin.Slice.slicePlaces;rw[fR ⋯,show (- -1:Int)=1 from by decide,Int.ediv_one]
 split <;> lia
theorem kF{sl:Addr}{vs:Value}{n:Nat}{Q:Int×Int×Nat->Shared->Prop}(hs:s.heap.IsSliceOf sl .none .none vs)(ps:IsPart vs (some (-1)))
  (h:Q ((n:Int) - 1,-1,n) s):wpAny (model prog w) A (Builtin.Slice.sliceApplied (.ref sl) (pure (n:Int))) Q E s:=by
 obtain⟨os,hos,hcs,hds⟩:=id hs;unfold Builtin.Slice.sliceApplied Builtin.Slice.sliceFields;refine aS (aS (l8 hos hds (x:=.none) rfl (aS (l8 hos hds (x:=.none) rfl (aS (l8 hos hds (x:=vs) rfl (dL ?_)))))));refine aS (jg ps ?_);show wpAny _ _ (if ((-1:Int)==0)=true then _ else _) _ _ s
 rw[fR ⋯];refine aS (slicePart_none (aS (slicePart_none (aS (dL ?_)))));show wpAny _ _ (match Builtin.Slice.sliceAdjust none none (-1) (n:Int)with | (lo,hi)=>pure (lo,(-1:Int),Builtin.Slice.slicePlaces lo hi (-1))) _ _ s
 rw[v8 n];show wpAny _ _ (pure ((n:Int) - 1,(-1:Int),Builtin.Slice.slicePlaces ((n:Int) - 1) (-1) (-1))) _ _ s;rw[v9];exact dL h
theorem DW(xs:Array Value):((List.range xs.size).filterMap λ(m:Nat)=>xs[(((xs.size:Int) - 1)+(m:Int) * -1).toNat]?).toArray=xs.toList.reverse.toArray:=by
 have e:(λ(m:Nat)=>xs[(((xs.size:Int) - 1)+(m:Int) * -1).toNat]?)=λm=>xs[xs.size - 1 - m]?:=by
  funext m
  congr 1
  lia
 rw[e];have e2:(List.range xs.size).filterMap (λm=>xs[xs.size - 1 - m]?)=((List.range xs.size).map λk=>xs.size - 1 - k).filterMap (xs[·]?):=by rw[List.filterMap_map];rfl
 rw[e2,PySem.W.krv_range,List.filterMap_reverse,PySem.W.krv_all]
theorem jR(ht:IsTup s.heap t items)(hs:s.heap.IsSliceOf sl .none .none vs)(ps:IsPart vs (some (-1)))
  (h:Q (.ref s⁻¹) { s with heap:=s.heap.push { cls:=.type "tuple",data:=.seq items.toList.reverse.toArray}})
  (jy:items.size<=sizeLine):wpAny (model prog w) A (getItem (.ref t) (.ref sl)) Q E s:=by
 have jI:sizeOk (.seq items.toList.reverse.toArray):=by show items.toList.reverse.toArray.size<=sizeLine;rw[dC,sT,mM];exact jy
 obtain⟨os,hos,hcs,hds⟩:=id hs;have Vk:s.TypeIs (.ref sl) "slice" :=⟨os,hos,hcs⟩;unfold getItem
 try with_reducible refine mB ?_
 first |refine aS (dL ?_) |skip
 refine aS (wpAny_sequenceKey ht.typeIs ⋯ ?_);refine aS (oQ (name:=Str.ofString "__getitem__") ht.typeIs nK
  (rV nK ht.typeIs entry_tuple_getitem ?_ (args_tuple_getitem _ _)))
 show wpAny _ _ (Builtin.Tuple.tupleItemsOf (.ref t) >>= _) _ _ s;refine aS (tupleItemsOf_ ht ?_);refine aS (Co Vk ?_);rw[fN ⋯];refine aS (kF hs ps ?_);show wpAny _ _ (if ((items.size:Int) - 1==0&&(-1:Int)==1&&items.size==items.size)=true then _ else _) _ _ s
 rw[fR (by intro q;rw[eP,eP]at q;exact absurd (eq_of_beq q.1.2) ⋯),DW]
 first
  |exact aS (m:=Builtin.Tuple.tupleExact _) (l7 (dL ⟨_,rfl,dL h⟩) jI)
  |exact aS (m:=Builtin.Tuple.tupleExact _) (l7 (aS (dL (dL ⟨_,rfl,dL h⟩))) jI)
  |exact aS (aS (m:=Builtin.Tuple.tupleExact _) (l7 (dL (dL ⟨_,rfl,dL h⟩)) jI))
  |exact aS (aS (m:=Builtin.Tuple.tupleExact _) (l7 (dL ⟨_,rfl,dL h⟩) jI))
end
end HT
namespace Ev
open L2
section
noncomputable abbrev m1(j:Nat)(p1 p3:Pos):Expr:=.UnaryOp .USub (.Constant (.int 1) j p1) p3
theorem DX{e:Expr}{te:TE}{r:V->Hp->VK->Prop}(he:PE X e te)
  (hr:∀(ah:List (Addr×Obj)) (s:Shared) (σ:L2.St) (H:Hp) (x:V) (v vs:Value) (sl:Addr) (Q:VK),L2.Inv X ah σ H s->RelV x v->s.heap.IsSliceOf sl .none .none vs->IsPart vs (some (-1))->r x H Q->
   ∃T id,typeLookup (.type T) "__getitem__"=pure (some (.builtin id))/\s.TypeIs v T/\wpAny (model X.prog X.w) X.A (getItem v (.ref sl)) (EP X ah σ Q) X.xe s)
  (pm:∀(ah:List (Addr×Obj)) (s:Shared) (σ:L2.St) (H:Hp),L2.Inv X ah σ H s->wpAny (model X.prog X.w) X.A (eval (m1 j p1 p3) X.env) (λu s'=>L2.Inv X ah σ H s'/\IsPart u (some (-1))) X.xe s) :
  PE X (.Subscript e (.Slice none none (some (m1 j p1 p3)) p2) pos) (λσ H Q=>te σ H λx H1=>r x H1 Q):=by
 intro ah s σ H Q I h;refine Subscript_ (bQ (he ah s σ H _ I h) λv s1 ⟨x,H1,I1,r1,q1⟩=>?_)
 refine wpAny_Slice ?_;rw[evalPart_none];refine dL (dL ?_);refine PySem.evalPart_some_step (bQ (pm ah s1 σ H1 I1) λu s2 ⟨I2,pu⟩=>?_)
 have I4:L2.Inv X ah σ H1 { s2 with heap:=s2.heap.push { cls:=.type "slice",data:=.fields #[.none,.none,u]}}:=I2.kept (t':=s2.toks) λb ob q=>bP _ q
 obtain⟨T,id,hT,ht,hg⟩:=hr ah { s2 with heap:=s2.heap.push { cls:=.type "slice",data:=.fields #[.none,.none,u]}} σ H1 x v u s2⁻¹ Q I4 r1 (Heap.IsSliceOf.new ..) pu q1;show wpAny (model X.prog X.w) X.A (subscriptTail e (.Slice none none (some (m1 j p1 p3)) p2) v (.ref s2⁻¹)) (EP X ah σ Q) X.xe { s2 with heap:=s2.heap.push { cls:=.type "slice",data:=.fields #[.none,.none,u]}};exact tail_any (ops:=[v,.ref s2⁻¹]) ht hT hg (by with_unfolding_all rfl)
theorem pm1(ah:List (Addr×Obj))(s:Shared)(σ:L2.St)(H:Hp)(I:L2.Inv X ah σ H s):wpAny (model X.prog X.w) X.A (eval (m1 j p1 p3) X.env) (λu s'=>L2.Inv X ah σ H s'/\IsPart u (some (-1))) X.xe s:=
 bQ ((Mi (pos:=p3) BX (Bw (i:=1) (j:=j) (pos:=p1))) ah s σ H (λv H'=>v=.int (-1)/\H'=H) I ⟨1,rfl,rfl,rfl⟩) λu s' ⟨v,H',I',r,e1,e2⟩=>by
  subst e1 e2;obtain⟨t,rfl⟩:=r;exact⟨I',.int _ t⟩
theorem JX{r:R}{l:List D}(hK:z.K=X.K)(h:aB X z a g r g1)(hp:pk r g1=some (.lst l)):aB X z (.Subscript a (.Slice none none (some (m1 j p1 p3)) p2) pos) g (.new l.reverse) g1:=by
 obtain⟨t,q,k⟩:=h;refine⟨_,DX (r:=λx H Q=>∃b xs,x=.ref b/\bX X.K H b xs/\∀p,H p=none->Q (.ref p) (upd H p (.lst xs.reverse))) q (λah s σ H x v vs sl Q I rx hs ps hx=>?_) pm1,λσ As M H Q s kk=>k σ As M H _ s λv H1 aO M1 s1 dB R=>?_⟩
 .
  obtain⟨b,xs,rfl,hx,hq⟩:=hx;cases rx;obtain⟨its,r,ht,hz⟩:=I.list hx;have aJ:=r.length;refine⟨"list",_,slot_list_getitem.lookup,ht.isList.typeIs,?_⟩;refine wpAny_getItem_list_slice ht.isList hs .none .none ps ⋯ ?_ (by rw[dC,<- aJ];exact hz)
  rw[PySem.W.krv_pick];refine⟨.ref s⁻¹,_,I.laid (t':=s.toks) (o:=.lst xs.reverse) (λb ob q=>bP _ q) (d5 _) ?_,rfl,hq _ (I.hok.fresh (d5 _))⟩
  exact⟨by rw[sT];exact hz,its.reverse,0,r.reverse,eD _ rfl⟩
 .
  obtain⟨b,xs,rfl,e1,e2⟩:=(s1.pk (aq.refl _ _) R hp).list;refine⟨b,xs,rfl,bX.of e1,λp hp=>?_⟩
  exact kk _ _ aO (p::M1) (s1.aN hp) (dB.trans (aq.aN hp)) ⟨p,xs.reverse,rfl,dA,λhA=>s1.fresh hp (s1.sub p hA),s1.bR hp,az,e2.reverse.stay (aq.aN hp)⟩
theorem JZ{l:List D}(hK:z.K=X.K)(h:aB X z a g (.dat (.tup l)) g1):aB X z (.Subscript a (.Slice none none (some (m1 j p1 p3)) p2) pos) g (.dat (.tup l.reverse)) g1:=by
 obtain⟨t,q,k⟩:=h;refine⟨_,DX (r:=λx H Q=>∃b xs,x=.ref b/\gi X.K H b xs/\∀p,H p=none->Q (.ref p) (upd H p (.tup xs.reverse))) q (λah s σ H x v vs sl Q I rx hs ps hx=>?_) pm1,λσ As M H Q s kk=>k σ As M H _ s λv H1 aO M1 s1 dB R=>?_⟩
 .
  obtain⟨b,xs,rfl,hx,hq⟩:=hx;cases rx;obtain⟨its,r,ht,hz⟩:=I.tuple hx;have aJ:=r.length;refine⟨"tuple",_,PyProof.Rows.slot_tuple_getitem.lookup,ht.typeIs,?_⟩;refine HT.jR ht hs ps ?_ (by rw[dC,<- aJ];exact hz)
  refine⟨.ref s⁻¹,_,I.laid (t':=s.toks) (o:=.tup xs.reverse) (λb ob q=>bP _ q) (d5 _) ?_,rfl,hq _ (I.hok.fresh (d5 _))⟩
  exact⟨by rw[sT];exact hz,its.reverse,r.reverse,eu.new _ _⟩
 .
  cases R with
  |@tup _ b xs e1 e2=>exact⟨b,xs,rfl,hK▸e1.sq,λp hp=>kk _ _ aO M1 (s1.laid hp) (dB.trans (aq.laid hp)) (.tup (.inl ⟨s1.fresh hp,.inl az⟩) (e2.reverse.stay (aq.laid hp)))⟩
theorem Qp:aB X z (.Dict [] [] pos) g (.dat .emp) g:=by
 refine⟨λσ H Q=>∀p,H p=none->Q (.ref p) (upd H p (.dK [])),λah s σ H Q I h=>wpAny_Dict_empty ⟨.ref s⁻¹,_,I.laid (t':=s.toks) (o:=.dK []) (λb ob q=>bP _ q) (d5 _) ?_,rfl,h _ (I.hok.fresh (d5 _))⟩,λσ As M H Q s k p hp=>k _ _ As M (s.laid hp) (aq.laid hp) (.emp (s.fresh hp) az)⟩
 refine⟨wE _,?_,[],?_,Heap.DictOf.new _⟩
 .
  have h1:mainGlobals<s⁻¹:=(I.ok.mod.glob.keeps I.bk).lt;refine Bool.eq_false_iff.mpr λq=>?_
  have q:=eq_of_beq q;rw[q]at h1;exact absurd h1 ⋯
 . exact .nil
end
open L2 PySem.W SeqAt
section
structure T4(r tI tO i j a b:Addr):Prop where
 n1:tI≠r/\tO≠r/\i≠r/\j≠r/\a≠r/\b≠r
 n2:tI≠tO/\i≠tO/\j≠tO/\a≠tO/\b≠tO
 n3:tI≠i/\tI≠j/\i≠j
 n4:a≠i/\b≠i/\a≠j/\b≠j
section
theorem DY{Q:Value->Shared->Prop}(N:T4 r tI tO i j a b)(D1:Draws prog w A i [i,a] n f S1)(D2:Draws prog w A j [j,b] m g S2)(hk1:k<n)(hk2:k<m)
  (er:IsZip s.heap r tI tO .none) (eI:IsPair s.heap tI (.ref i) (.ref j)) (eO:IsPair s.heap tO c d) (t1:S1 k s.heap) (t2:S2 k s.heap)
  (hQ:∀u v h' tk,f k u->g k v->IsZip h' r tI tO (rawInt s⁻¹)->IsPair h' tO u v->S1 (k+1) h'->S2 (k+1) h'->IsPair h' s⁻¹ u v->h'.objs.size=s⁻¹+1->
   (∀x o,x≠r->x≠tO->x≠i->x≠j->s.heap.get? x=some o->h'.get? x=some o)->Q (.ref s⁻¹) { s with heap:=h',toks:=tk}) :
  wpAny (model prog w) A (Builtin.«zip.__next__» ⟨[.ref r],[]⟩) (λfin s'=>∃v,fin=.done (.ret v)/\Q v s') E s:=by
 obtain⟨⟨p1,p2,p3,p4,p5,p6⟩,⟨q1,q2,q3,q4,q5⟩,⟨u1,u2,u3⟩,⟨v1,v2,v3,v4⟩⟩:=N;refine aS (m:=field (.ref r) 2) (l8 er rfl (x:=.bool false) rfl ?_);refine aS (m:=field (.ref r) 3) (l8 er rfl (x:=.ref tI) rfl (aS (yA eI rfl ?_)));refine aS (m:=Builtin.SmallTypes.ownedTupleIsFree (.ref r)) ?_;unfold Builtin.SmallTypes.ownedTupleIsFree;refine aS (l8 er rfl (x:=.none) rfl (dL ?_));simp only[Ap];refine aS (wpAny_rule (aS (l8 er rfl (x:=.ref tO) rfl (aS (x0 er ⋯ λha Hz ka=>?_)))))
 replace Hz:IsZip ha r tI tO .ellipsis:=Hz;refine aS ?_;simp only[List.zipIdx_cons,List.zipIdx_nil,List.forIn_cons,List.forIn_nil];have Yn:S1 k ha:=D1.frame k _ _ t1 λx hx o e=>(ka.2 x (by rcases d0.mp hx with z |z;exact z▸p3;exact (gN.mp z)▸p5)).trans e
 have Z6:S2 k ha:=D2.frame k _ _ t2 λx hx o e=>(ka.2 x (by rcases d0.mp hx with z |z;exact z▸p4;exact (gN.mp z)▸p6)).trans e
 refine aS (aS (B2 (aS (m:=Builtin.SmallTypes.nextOf (.ref i)) (D1.item k { s with heap:=ha} _ _ hk1 Yn λu hb J0 fu t1b kb=>dL ?_))))
 have kb:Heap.SameBut i ha hb:=kb;have V5:IsPair hb tO c d:=(kb.2 _ (nN q2)).trans ((ka.2 _ p2).trans eO);refine aS (yA (s:={ s with heap:=hb,toks:=J0}) V5 rfl (aS (wpAny_updateSeq_pair (s:={ s with heap:=hb,toks:=J0}) V5 λhc Yo kc=>?_)))
 replace Yo:IsPair hc tO u d:=Yo;have kc:Heap.SameBut tO hb hc:=kc;refine aS (wpAny_letGo (dL ?_));have t1c:S1 (k+1) hc:=D1.frame _ _ _ t1b λx hx o e=>(kc.2 x (by rcases d0.mp hx with z |z;exact z▸q2;exact (gN.mp z)▸q4)).trans e
 have Z7:S2 k hc:=D2.frame k _ _ Z6 λx hx o e=>by
  have hx:x=j\/x=b:=by rcases d0.mp hx with z |z;exact .inl z;exact .inr (gN.mp z)
  rw[kc.2 x (by rcases hx with rfl |rfl;exact q3;exact q5),kb.2 x (by rcases hx with rfl |rfl;exact nN u3;exact v2)]
  exact e
 refine aS (aS (B2 (aS (m:=Builtin.SmallTypes.nextOf (.ref j)) (D2.item k { s with heap:=hc,toks:=J0} _ _ hk2 Z7 λv hd Yp gv t2d kd=>dL ?_))))
 have kd:Heap.SameBut j hc hd:=kd;have eOd:IsPair hd tO u d:=(kd.2 _ (nN q3)).trans Yo;refine aS (yA (s:={ s with heap:=hd,toks:=Yp}) eOd rfl (aS (wpAny_updateSeq_pair (s:={ s with heap:=hd,toks:=Yp}) eOd λhe Yq ke=>?_)))
 replace Yq:IsPair he tO u v:=Yq;have ke:Heap.SameBut tO hd he:=ke;refine aS (wpAny_letGo (dL (dL ?_)));refine aS (yA (s:={ s with heap:=he,toks:=Yp}) Yq rfl (aS (wpAny_newTuple ?_)));have sz:he.objs.size=s⁻¹:=by rw[ke.1,kd.1,kc.1,kb.1];exact ka.1
 have ere:IsZip he r tI tO .ellipsis:=by show he.get? r=_;rw[ke.2 _ (nN p2),kd.2 _ (nN p4),kc.2 _ (nN p2),kb.2 _ (nN p3)];exact Hz
 have old:∀x o,x≠r->x≠tO->x≠i->x≠j->s.heap.get? x=some o->he.get? x=some o:=λx o x1 x2 x3 x4 e=>by
  rw[ke.2 _ x2,kd.2 _ x4,kc.2 _ x2,kb.2 _ x3];exact (ka.2 _ x1).trans e
 have t1e:S1 (k+1) he:=D1.frame _ _ _ t1c λx hx o e=>by
  have hx:x=i\/x=a:=by rcases d0.mp hx with z |z;exact .inl z;exact .inr (gN.mp z)
  rw[ke.2 x (by rcases hx with rfl |rfl;exact q2;exact q4),kd.2 x (by rcases hx with rfl |rfl;exact u3;exact v3)]
  exact e
 have t2e:S2 (k+1) he:=D2.frame _ _ _ t2d λx hx o e=>(ke.2 x (by rcases d0.mp hx with z |z;exact z▸q3;exact (gN.mp z)▸q5)).trans e
 refine aS (m:=Builtin.SmallTypes.ownedTupleHandOut (.ref r) (.ref he.objs.size)) ?_;unfold Builtin.SmallTypes.ownedTupleHandOut;have erf:IsZip (he.push { cls:=.type "tuple",data:=.seq #[u,v]}) r tI tO .ellipsis:=bP _ ere;refine aS (x0 erf ⋯ λhg Z8 kg=>?_)
 replace Z8:IsZip hg r tI tO (rawInt he.objs.size):=Z8;refine x0 Z8 ⋯ λhh Yr kh=>?_
 replace Yr:IsZip hh r tI tO (rawInt he.objs.size):=Yr;have kg:Heap.SameBut r (he.push { cls:=.type "tuple",data:=.seq #[u,v]}) hg:=kg;have kh:Heap.SameBut r hg hh:=kh;have up:∀x o,x≠r->he.get? x=some o->hh.get? x=some o:=λx o x1 e=>by rw[kh.2 _ x1,kg.2 _ x1];exact bP _ e
 have rlt:r<he.objs.size:=eJ ere;have new:IsPair hh he.objs.size u v:=by show hh.get? _=_;rw[kh.2 _ (y6 rlt),kg.2 _ (y6 rlt)];exact eD _ rfl
 have szh:hh.objs.size=he.objs.size+1:=by rw[kh.1,kg.1,An]
 have fr1:∀x o,x=i\/x=a->he.get? x=some o->hh.get? x=some o:=λx o hx e=>up x o (by rcases hx with rfl |rfl;exact p3;exact p5) e
 have fr2:∀x o,x=j\/x=b->he.get? x=some o->hh.get? x=some o:=λx o hx e=>up x o (by rcases hx with rfl |rfl;exact p4;exact p6) e
 rw[sz]at Yr new szh;refine dL ⟨_,rfl,?_⟩;show Q (.ref he.objs.size) _;rw[sz];exact hQ u v hh Yp fu gv Yr (up _ _ p2 Yq) (D1.frame _ _ _ t1e λx hx o e=>fr1 x o (by rcases d0.mp hx with z |z;exact .inl z;exact .inr (gN.mp z)) e)
  (D2.frame _ _ _ t2e λx hx o e=>fr2 x o (by rcases d0.mp hx with z |z;exact .inl z;exact .inr (gN.mp z)) e) new szh λx o x1 x2 x3 x4 e=>up x o x1 (old x o x1 x2 x3 x4 e)
theorem J1(N:T4 r tI tO i j a b)(D1:Draws prog w A i [i,a] n f S1)(D2:Draws prog w A j [j,b] m g S2)(hk:k=n\/(k<n/\k=m))
  (er:IsZip s.heap r tI tO .none) (eI:IsPair s.heap tI (.ref i) (.ref j)) (eO:IsPair s.heap tO c d) (t1:S1 k s.heap) (t2:S2 k s.heap)
  (hE:∀h' e tk,(∀x o,x≠r->x≠tO->x≠i->x≠j->s.heap.get? x=some o->h'.get? x=some o)->(∃o,h'.get? e=some o/\o.cls=.type "StopIteration")->E (.ref e) { s with heap:=h',toks:=tk}) :
  wpAny (model prog w) A (Builtin.«zip.__next__» ⟨[.ref r],[]⟩) Q E s:=by
 obtain⟨⟨p1,p2,p3,p4,p5,p6⟩,⟨q1,q2,q3,q4,q5⟩,⟨u1,u2,u3⟩,⟨v1,v2,v3,v4⟩⟩:=N;refine aS (m:=field (.ref r) 2) (l8 er rfl (x:=.bool false) rfl ?_);refine aS (m:=field (.ref r) 3) (l8 er rfl (x:=.ref tI) rfl (aS (yA eI rfl ?_)));refine aS (m:=Builtin.SmallTypes.ownedTupleIsFree (.ref r)) ?_;unfold Builtin.SmallTypes.ownedTupleIsFree;refine aS (l8 er rfl (x:=.none) rfl (dL ?_));simp only[Ap];refine aS (wpAny_rule (aS (l8 er rfl (x:=.ref tO) rfl (aS (x0 er ⋯ λha Hz ka=>?_)))))
 replace Hz:IsZip ha r tI tO .ellipsis:=Hz;refine aS ?_;simp only[List.zipIdx_cons,List.zipIdx_nil,List.forIn_cons,List.forIn_nil];have Yn:S1 k ha:=D1.frame k _ _ t1 λx hx o e=>(ka.2 x (by rcases d0.mp hx with z |z;exact z▸p3;exact (gN.mp z)▸p5)).trans e
 have Z6:S2 k ha:=D2.frame k _ _ t2 λx hx o e=>(ka.2 x (by rcases d0.mp hx with z |z;exact z▸p4;exact (gN.mp z)▸p6)).trans e
 have stop:∀(hb:Heap) (e:Addr) (tk:Nat),IsZip hb r tI tO .ellipsis->(∃o,hb.get? e=some o/\o.cls=.type "StopIteration")->e≠r:=λhb e tk z ⟨o,h1,h2⟩ q=>by
  rw[q,z]at h1;cases h1;exact absurd (show Value.type "zip"=.type "StopIteration" from h2) ⋯
 rcases hk with rfl |⟨hk1,rfl⟩
 .
  refine aS (aS (B2 (aS (m:=Builtin.SmallTypes.nextOf (.ref i)) (D1.done { s with heap:=ha} _ _ Yn λhb e kb ex=>?_))))
  have kb:Heap.ExtBut i ha hb:=kb;have erb:IsZip hb r tI tO .ellipsis:=kb _ _ (nN p3) Hz;have Z9:=stop hb e s.toks erb ex;obtain⟨oe,x1,x2⟩:=ex;refine x0 (s:={ s with heap:=hb}) erb ⋯ λhc _ kc=>?_
  have kc:Heap.SameBut r hb hc:=kc;exact hE hc e s.toks (λx o y1 y2 y3 y4 z=>(kc.2 _ y1).trans (kb _ _ y3 ((ka.2 _ y1).trans z))) ⟨oe,(kc.2 _ Z9).trans x1,x2⟩
 .
  refine aS (aS (B2 (aS (m:=Builtin.SmallTypes.nextOf (.ref i)) (D1.item k { s with heap:=ha} _ _ hk1 Yn λu hb J0 fu t1b kb=>dL ?_))))
  have kb:Heap.SameBut i ha hb:=kb;have V5:IsPair hb tO c d:=(kb.2 _ (nN q2)).trans ((ka.2 _ p2).trans eO);refine aS (yA (s:={ s with heap:=hb,toks:=J0}) V5 rfl (aS (wpAny_updateSeq_pair (s:={ s with heap:=hb,toks:=J0}) V5 λhc Yo kc=>?_)))
  have kc:Heap.SameBut tO hb hc:=kc;refine aS (wpAny_letGo (dL ?_));have Z7:S2 k hc:=D2.frame k _ _ Z6 λx hx o e=>by
   have hx:x=j\/x=b:=by rcases d0.mp hx with z |z;exact .inl z;exact .inr (gN.mp z)
   rw[kc.2 x (by rcases hx with rfl |rfl;exact q3;exact q5),kb.2 x (by rcases hx with rfl |rfl;exact nN u3;exact v2)]
   exact e
  refine aS (aS (B2 (aS (m:=Builtin.SmallTypes.nextOf (.ref j)) (D2.done { s with heap:=hc,toks:=J0} _ _ Z7 λhd e kd ex=>?_))))
  have kd:Heap.ExtBut j hc hd:=kd;have erd:IsZip hd r tI tO .ellipsis:=kd _ _ (nN p4) (by rw[kc.2 _ (nN p2),kb.2 _ (nN p3)];exact Hz)
  have Z9:=stop hd e s.toks erd ex;obtain⟨oe,x1,x2⟩:=ex;refine x0 (s:={ s with heap:=hd,toks:=J0}) erd ⋯ λhe _ ke=>?_
  have ke:Heap.SameBut r hd he:=ke;exact hE he e J0 (λx o y1 y2 y3 y4 z=>(ke.2 _ y1).trans (kd _ _ y4 (by rw[kc.2 _ y2,kb.2 _ y3];exact (ka.2 _ y1).trans z))) ⟨oe,(ke.2 _ Z9).trans x1,x2⟩
end
section
theorem Ea{Q:Option Value->Shared->Prop}(N:T4 r tI tO i j a b)(D1:Draws prog w A.in1 i [i,a] n f S1)(D2:Draws prog w A.in1 j [j,b] m g S2)(hk1:k<n)(hk2:k<m)
  (er:IsZip s.heap r tI tO .none) (eI:IsPair s.heap tI (.ref i) (.ref j)) (eO:IsPair s.heap tO c d) (t1:S1 k s.heap) (t2:S2 k s.heap)
  (hQ:∀u v h' tk,f k u->g k v->IsZip h' r tI tO (rawInt s⁻¹)->IsPair h' tO u v->S1 (k+1) h'->S2 (k+1) h'->IsPair h' s⁻¹ u v->h'.objs.size=s⁻¹+1->
   (∀x o,x≠r->x≠tO->x≠i->x≠j->s.heap.get? x=some o->h'.get? x=some o)->Q (some (.ref s⁻¹)) { s with heap:=h',toks:=tk}):wpAny (model prog w) A (pyNext (.ref r)) Q E s:=by
 have ty:s.TypeIs (.ref r) "zip" :=⟨_,er,rfl⟩;unfold pyNext;exact aS (wpAny_attempt (oQ (name:=Str.ofString "__next__") ty F.slot_zip_next (rV F.slot_zip_next ty F.entry_zip_next
  (DY N D1 D2 hk1 hk2 er eI eO t1 t2 λu v h' tk b1 b2 b3 b4 b5 b6 b7 b8 b9=>dL (hQ u v h' tk b1 b2 b3 b4 b5 b6 b7 b8 b9)) (F.args_zip_next_1 _))))
theorem uq(N:T4 r tI tO i j a b)(D1:Draws prog w A.in1 i [i,a] n f S1)(D2:Draws prog w A.in1 j [j,b] m g S2)(hk:k=n\/(k<n/\k=m))
  (er:IsZip s.heap r tI tO .none) (eI:IsPair s.heap tI (.ref i) (.ref j)) (eO:IsPair s.heap tO c d) (t1:S1 k s.heap) (t2:S2 k s.heap)
  (hQ:∀h' tk,(∀x o,x≠r->x≠tO->x≠i->x≠j->s.heap.get? x=some o->h'.get? x=some o)->Q none { s with heap:=h',toks:=tk}):wpAny (model prog w) A (pyNext (.ref r)) Q E s:=by
 have ty:s.TypeIs (.ref r) "zip" :=⟨_,er,rfl⟩;unfold pyNext;refine aS (wpAny_attempt (oQ (name:=Str.ofString "__next__") ty F.slot_zip_next (rV F.slot_zip_next ty F.entry_zip_next
  (J1 N D1 D2 hk er eI eO t1 t2 λh' e tk kp ex=>?_) (F.args_zip_next_1 _))))
 obtain⟨o,x1,x2⟩:=ex;exact aS (wpAny_isInstance (T:= "StopIteration") (b:=true) ⟨o,x1,x2⟩ isSubtype_stop (dL (hQ _ tk kp)))
end
end
open L2 PySem.W SeqAt
section
theorem Inv.Qq{h':Heap}{t':Nat}{ch:List Addr}(I:L2.Inv X ah σ H s)(hf:∀b∈ch,j5 X ah H b)(k:∀b o,b∉ch->s.heap.get? b=some o->h'.get? b=some o):L2.Inv X ah σ H { s with heap:=h',toks:=t'}:=by
 have nH:∀b u,H b=some u->b∉ch:=λb u e z=>by rw[(hf b z).1]at e;cases e
 refine I.step (g':=s.gens) (d':=s.drawn) (ch:=ch) (λb hb=>?_) (λb o _ _ hc e _=>k b o hc e) (λb o _ _ hc e _=>⟨o.slots,k b o hc e⟩) (λ_ _ _ _ n=>n) (λb o hc e=>⟨o,k b o hc e⟩) (λ_ _ e=>e) (λ_ _ _ e=>e) (λb ps e=>⟨#[],by rw[e];simp⟩) (λm hm=>?_) (λb u e=>?_) I.bare
 . obtain⟨f0,f1,f2,f3,f4,f5⟩:=hf b hb;exact⟨f3,f1,f4,f5⟩
 . obtain⟨o,es,ep,ho,rr⟩:=hm;exact⟨o,es,ep,k _ o (λz=>(hf _ z).2.1 rfl) ho,rr⟩
 .
  refine (I.hok b u e).stay (λc w hc q=>k c w (λz=>?_) q) (λ_ q=>q) λ_ _ q=>q
  rcases hc with rfl |hc
  . exact nH _ _ e z
  . exact nH _ _ hc z
theorem Inv.Qs{h':Heap}{t':Nat}{ch:List Addr}{xs:List V}{its:List Value}(I:L2.Inv X ah σ H s)(hf:∀b∈ch,j5 X ah H b)(k:∀b o,b∉ch->s.heap.get? b=some o->h'.get? b=some o)(hz:xs.length<=sizeLine)(rv:Vals xs its)(ht:eu h' s⁻¹ its.toArray) :
  L2.Inv X ah σ (upd H s⁻¹ (.tup xs)) { s with heap:=h',toks:=t'}:=by
 have nH:∀b u,H b=some u->b∉ch:=λb u e z=>by rw[(hf b z).1]at e;cases e
 have fr:H s⁻¹=none:=I.hok.fresh (d5 _);have nn:∀b u,H b=some u->b≠s⁻¹:=λb u e z=>by rw[z,fr]at e;cases e
 refine I.step (g':=s.gens) (d':=s.drawn) (ch:=ch) (λb hb=>?_) (λb o _ _ hc e _=>k b o hc e) (λb o _ _ hc e _=>⟨o.slots,k b o hc e⟩) (λb o _ e n=>by rw[au (i5 (eJ e))];exact n) (λb o hc e=>⟨o,k b o hc e⟩) (λb _ e=>by rw[au (nn _ _ e)];exact e) (λb _ _ e=>by rw[au (nn _ _ e)];exact e) (λb ps e=>⟨#[],by rw[au (nn _ _ e),e];simp⟩) (λm hm=>?_) (λb u e=>?_) I.bare
 . obtain⟨f0,f1,f2,f3,f4,f5⟩:=hf b hb;exact⟨f3,f1,f4,f5⟩
 . obtain⟨o,es,ep,ho,rr⟩:=hm;exact⟨o,es,ep,k _ o (λz=>(hf _ z).2.1 rfl) ho,rr⟩
 .
  by_cases hb:b=s⁻¹
  . subst hb;rw[az]at e;cases e;exact⟨hz,its,rv,ht⟩
  .
   rw[au hb]at e;refine (I.hok b u e).stay (λc w hc q=>k c w (λz=>?_) q) (λc q=>by rw[au (nn _ _ q)];exact q) λc _ q=>by rw[au (nn _ _ q)];exact q
   rcases hc with rfl |hc
   . exact nH _ _ e z
   . exact nH _ _ hc z
end
theorem qu.Mu(I:L2.Inv X ah σ H s)(h:qu tp X.K H u us)(f:j5 X ah H c):u≠c:=λz=>by
 subst z;have inK:∀o,X.K.lookup u=some o->False:=λo e=>by
  have e0:=I.ok.mod.Bg u o e;rcases f.2.2.2.1 with q |q
  . exact I.ok.sU u o e0 q
  . exact absurd (eA (eJ (I.ok.bs u o e0).1) q) (o6 _)
 cases tp with
 |true=>
  rcases (show gi X.K H u us from h)with (h |⟨o,h⟩) |h
  . rw[f.1]at h;cases h
  . rw[f.1]at h;cases h
  . obtain⟨o,_,_,h,_⟩:=h;exact inK _ h
 |false=>
  rcases (show bX X.K H u us from h)with (h |⟨o,h⟩) |h
  . rw[f.1]at h;cases h
  . rw[f.1]at h;cases h
  . obtain⟨o,_,_,h,_⟩:=h;exact inK _ h
noncomputable def Itz(tp:Bool)(K:Frag)(a b:Addr):It:=
 ⟨λi H=>∃xs ys x y,qu tp K H a xs/\qu tp K H b ys/\xs[i]?=some x/\ys[i]?=some y,λi H x H'=>∃p u v,(∀xs,qu tp K H a xs->xs[i]?=some u)/\(∀ys,qu tp K H b ys->ys[i]?=some v)/\H p=none/\x=.ref p/\H'=upd H p (.tup [u,v]),
  λi H=>∃xs ys,qu tp K H a xs/\qu tp K H b ys/\(i=xs.length\/(i<xs.length/\i=ys.length))⟩
theorem Eb{P:Program}{w:World}{K:Frag}{tp:Bool}{es:List Expr}{k:Nat}{pos:Pos}(r tI tO i j a b:Addr)(A1:tI≠r/\tO≠r/\i≠r/\j≠r)(A2:tI≠tO/\i≠tO/\j≠tO)(A3:tI≠i/\tI≠j/\i≠j) :
  Turn P w K (.Tuple es k pos) (Itz tp K a b) [r,tI,tO,i,j] r (λn h=>IsZip h r tI tO .none/\IsPair h tI (.ref i) (.ref j)/\(∃c d,IsPair h tO c d)/\Hy tp h i a n/\Hy tp h j b n) where
 mem:=by simp
 obj:=λn h st x hx=>by
  obtain⟨er,eI,⟨c,d,eO⟩,t1,t2⟩:=st;simp only[d0,mE,AI]at hx;rcases hx with rfl |rfl |rfl |rfl |rfl
  . exact⟨_,er,λv z=>nomatch (show Data.fields _=Data.cell v from z)⟩
  . exact⟨_,eI,λv z=>nomatch (show Data.seq _ _=Data.cell v from z)⟩
  . exact⟨_,eO,λv z=>nomatch (show Data.seq _ _=Data.cell v from z)⟩
  . obtain⟨o,vs,e1,e2⟩:=t1.obj;exact⟨o,e1,λv z=>by rw[e2]at z;cases z⟩
  . obtain⟨o,vs,e1,e2⟩:=t2.obj;exact⟨o,e1,λv z=>by rw[e2]at z;cases z⟩
 keep:=λn h h' st kp=>by
  obtain⟨er,eI,⟨c,d,eO⟩,t1,t2⟩:=st;exact⟨kp r ⋯ _ er,kp tI ⋯ _ eI,⟨c,d,kp tO ⋯ _ eO⟩,t1.keep λo q=>kp i ⋯ o q,t2.keep λo q=>kp j ⋯ o q⟩
 item:=by
  intro X hP hw hK hc n ah s σ H E I hf st hg;subst hP hw hK;obtain⟨er,eI,⟨c,d,eO⟩,t1,t2⟩:=st;obtain⟨xs,ys,x,y,qx,qy,gx,gy⟩:=hg;obtain⟨V6,rx,V7,zx⟩:=qx.real I;obtain⟨V8,ry,V9,zy⟩:=qy.real I;have nf:∀{u:Addr}{us:List V}{c:Addr},qu tp X.K H u us->c∈[r,tI,tO,i,j]->u≠c:=λh hc=>qu.Mu I h (hf _ hc)
  have N:T4 r tI tO i j a b:=⟨⟨A1.1,A1.2.1,A1.2.2.1,A1.2.2.2,nf qx ⋯,nf qy ⋯⟩,⟨A2.1,A2.2.1,A2.2.2,nf qx ⋯,nf qy ⋯⟩,A3,⟨nf qx ⋯,nf qy ⋯,nf qx ⋯,nf qy ⋯⟩⟩;have l1:n<V6.length:=by rw[<- rx.length];exact (dE.mp gx).1
  have l2:n<V8.length:=by rw[<- ry.length];exact (dE.mp gy).1
  refine Ea (A:=X.A) N (rO (tp:=tp) (A:=X.A.in1) (I.ok.hd hc) (nf qx ⋯) V6) (rO (tp:=tp) (A:=X.A.in1) (I.ok.hd hc) (nf qy ⋯) V8) l1 l2 er eI eO ⟨t1,V7⟩ ⟨t2,V9⟩ λu v h1 tk fu gv Hz eO1 s1 s2 new sz kp=>⟨_,rfl,?_⟩
  refine wpAny_letOwnedTupleGo_zip (s:={ s with heap:=h1,toks:=tk}) Hz λh2 er2 k2=>?_
  have k2:Heap.SameBut r h1 h2:=k2;obtain⟨u',e1,ru⟩:=rx.get gx;obtain⟨v',e2,rv⟩:=ry.get gy;rw[fu]at e1;cases e1;rw[gv]at e2;cases e2;have pr:s⁻¹≠r:=y6 (eJ er);have kk:∀x o,x∉[r,tO,i,j]->s.heap.get? x=some o->h2.get? x=some o:=λx o hx e=>by
   simp only[d0,mE,AI,not_or]at hx;exact (k2.2 x hx.1).trans (kp x o hx.1 hx.2.1 hx.2.2.1 hx.2.2.2 e)
  have J:=Inv.Qs (t':=tk) (xs:=[x,y]) (its:=[u,v]) I (ch:=[r,tO,i,j]) (λc hc=>hf c (by simp only[d0,mE,AI]at hc ⊢;rcases hc with h |h |h |h <;> simp[h])) kk (by rw[l5];show 2<=16777216;decide) (.cons ru (.cons rv .nil)) ⟨_,(k2.2 _ pr).trans new,⟨rfl,_,rfl⟩,rfl⟩
  have eI2:IsPair h2 tI (.ref i) (.ref j):=kk _ _ (by simp[A1.1,A2.1,A3.1,A3.2.1]) eI
  refine⟨.ref s⁻¹,_,J,rfl,⟨_,x,y,λzs hz=>by rw[hz.inj I qx];exact gx,λzs hz=>by rw[hz.inj I qy];exact gy,I.hok.fresh (d5 _),rfl,rfl⟩,⟨er2,eI2,⟨u,v,(k2.2 _ A1.2.1).trans eO1⟩,s1.1.keep λo q=>(k2.2 _ A1.2.2.1).trans q,s2.1.keep λo q=>(k2.2 _ A1.2.2.2).trans q⟩,λc hc=>?_⟩
  have hcn:c≠s⁻¹:=λz=>by
   have:∃o,s.heap.get? c=some o:=by
    simp only[d0,mE,AI]at hc;rcases hc with rfl |rfl |rfl |rfl |rfl
    . exact⟨_,er⟩
    . exact⟨_,eI⟩
    . exact⟨_,eO⟩
    . obtain⟨o,_,e,_⟩:=t1.obj;exact⟨o,e⟩
    . obtain⟨o,_,e,_⟩:=t2.obj;exact⟨o,e⟩
   obtain⟨o,e⟩:=this;exact absurd (eJ e) (by rw[z];exact o6 _)
  rw[au hcn];exact (hf c hc).1
 done:=by
  intro X hP hw hK hc n ah s σ H E I hf st hg;subst hP hw hK;obtain⟨er,eI,⟨c,d,eO⟩,t1,t2⟩:=st;obtain⟨xs,ys,qx,qy,hn⟩:=hg;obtain⟨V6,rx,V7,zx⟩:=qx.real I;obtain⟨V8,ry,V9,zy⟩:=qy.real I;have nf:∀{u:Addr}{us:List V}{c:Addr},qu tp X.K H u us->c∈[r,tI,tO,i,j]->u≠c:=λh hc=>qu.Mu I h (hf _ hc)
  have N:T4 r tI tO i j a b:=⟨⟨A1.1,A1.2.1,A1.2.2.1,A1.2.2.2,nf qx ⋯,nf qy ⋯⟩,⟨A2.1,A2.2.1,A2.2.2,nf qx ⋯,nf qy ⋯⟩,A3,⟨nf qx ⋯,nf qy ⋯,nf qx ⋯,nf qy ⋯⟩⟩;refine uq (A:=X.A) N (rO (tp:=tp) (A:=X.A.in1) (I.ok.hd hc) (nf qx ⋯) V6) (rO (tp:=tp) (A:=X.A.in1) (I.ok.hd hc) (nf qy ⋯) V8) (by rw[<- rx.length,<- ry.length];exact hn) er eI eO ⟨t1,V7⟩ ⟨t2,V9⟩ λh1 tk kp=>⟨rfl,?_⟩
  exact Inv.Qq (t':=tk) I (ch:=[r,tO,i,j]) (λc hc=>hf c (by simp only[d0,mE,AI]at hc ⊢;rcases hc with h |h |h |h <;> simp[h])) λx o hx e=>by
   simp only[d0,mE,AI,not_or]at hx;exact kp x o hx.1 hx.2.1 hx.2.2.1 hx.2.2.2 e
 self:=λA n s Q E st h=>wpAny_pyIter_zip st.1 h
open L2 PySem.W SeqAt
section
noncomputable abbrev Wa(h:Heap)(a:Addr):Heap:=h.push { cls:=.type "tuple_iterator",data:=.fields #[.ref a,.int 0 0]}
abbrev Ys(h:Heap)(a b:Addr):Heap:=(Wa h a).push { cls:=.type "tuple_iterator",data:=.fields #[.ref b,.int 0 0]}
abbrev Yt(h:Heap)(a b:Addr):Heap:=(Ys h a b).push { cls:=.type "tuple",data:=.seq #[.ref h.objs.size,.ref (Wa h a).objs.size]}
abbrev Yu(h:Heap)(a b:Addr):Heap:=(Yt h a b).push { cls:=.type "tuple",data:=.seq #[.none,.none]}
abbrev T5 (h:Heap) (a b:Addr):Heap:=(Yu h a b).push { cls:=.type "zip",data:=.fields #[.none,.bool false,.bool false,.ref (Ys h a b).objs.size,.ref (Yt h a b).objs.size]}
theorem wc(a b:Addr)(xs ys:Array Value) :
  Meets (Builtin.«zip.__new__» ⟨[.type "zip",.ref a,.ref b],[]⟩) (λ_ R s=>s.heap.IsTuple a xs/\s.heap.IsTuple b ys/\R (.ok (.ret (.ref (Yu s.heap a b).objs.size))) { s with heap:=T5 s.heap a b}):=
 .of_wp λprog w A R s h=>by
  obtain⟨hp,g,d,tk,os⟩:=s;obtain⟨ta,tb,h⟩:=h;have hsub:=sub_zip;have T1:Heap.IsTuple (Shared.heap ⟨hp,g,d,tk,os⟩) a xs:=ta;have T2:Heap.IsTuple (Shared.heap ⟨Wa hp a,g,d,tk,os⟩) b ys:=by obtain⟨o,e,rr⟩:=tb;exact⟨o,bP _ e,rr⟩
  wp_walk using wpAny_pyIter_tuple T1,wpAny_pyIter_tuple T2
  exact⟨_,rfl,h⟩
theorem zW(ta:s.heap.IsTuple a xs)(tb:s.heap.IsTuple b ys)
  (h:∀h',IsZip h' (s⁻¹+4) (s⁻¹+2) (s⁻¹+3) .none->IsPair h' (s⁻¹+2) (.ref s⁻¹) (.ref (s⁻¹+1))->
   IsPair h' (s⁻¹+3) .none .none->h'.IsTupleIter s⁻¹ a 0->h'.IsTupleIter (s⁻¹+1) b 0->h'.objs.size=s⁻¹+5->
   (∀c o,s.heap.get? c=some o->h'.get? c=some o)->Q (.ref (s⁻¹+4)) { s with heap:=h'}) :
  wpAny (model prog w) A (call (.type "zip") [.ref a,.ref b]) Q E s:=by
 refine callType_new F.called_zip ⋯ (F.typeCall_zip_2 _ _) (F.newCall_zip_2 _ _) (λobj=>F.args_object_init_3 obj _ _) F.entry_zip_new (wc a b xs ys) ⟨ta,tb,?_⟩
 have s1:(Wa s.heap a).objs.size=s⁻¹+1:=An ..;have s2:(Ys s.heap a b).objs.size=s⁻¹+2:=by rw[An,s1]
 have s3:(Yt s.heap a b).objs.size=s⁻¹+3:=by rw[An,s2]
 have s4:(Yu s.heap a b).objs.size=s⁻¹+4:=by rw[An,s3]
 have o5:(T5 s.heap a b).get? (Yu s.heap a b).objs.size=some _:=eD _ rfl;have o4:(T5 s.heap a b).get? (Yt s.heap a b).objs.size=some _:=bP _ (eD _ rfl);have o3:(T5 s.heap a b).get? (Ys s.heap a b).objs.size=some _:=bP _ (bP _ (eD _ rfl));have o2:(T5 s.heap a b).get? (Wa s.heap a).objs.size=some _:=bP _ (bP _ (bP _ (eD _ rfl)));have o1:(T5 s.heap a b).get? s⁻¹=some _:=bP _ (bP _ (bP _ (bP _ (eD _ rfl))));show _/\_;rw[s4]at o5 ⊢
 rw[s2,s3]at o5;rw[s2,s1]at o3;rw[s3]at o4;rw[s1]at o2;exact⟨⟨_,o5,rfl⟩,h _ o5 o3 o4 ⟨_,o1,rfl,rfl⟩ ⟨_,o2,rfl,rfl⟩ (by rw[An,s4]) λc o e=>bP _ (bP _ (bP _ (bP _ (bP _ e))))⟩
end
noncomputable def rQ(l m:List D):List D:=(l.zip m).map λp=>.tup [p.1,p.2]
theorem Ec{l m:List D}{n:Nat}{d:D}(h:(rQ l m)[n]?=some d):∃x y,l[n]?=some x/\m[n]?=some y/\d=.tup [x,y]:=by
 unfold rQ at h;rw[oP]at h;cases e:(l.zip m)[n]? with
 |none=>rw[e]at h;cases h
 |some q=>rw[e]at h;cases h;obtain⟨h1,h2⟩:=List.getElem?_zip_eq_some.mp e;exact⟨q.1,q.2,h1,h2,rfl⟩
theorem Ed(l m:List D):(rQ l m).length=min l.length m.length:=by simp[rQ]
section
def isTup:D->Bool
 |.tup _=>true
 |_=>false
theorem Rep.sqX{K:Frag}{M:List Addr}{H:Hp}{d:D}{v:V}{l:List D}(r:Rep K M H d v)(h:dF d=some l):∃a xs,v=.ref a/\aH K M H l xs/\∀M2 H2,aq M H M2 H2->qu (isTup d) K H2 a xs:=by
 cases r with
 |@lst _ a xs hb rr=>cases h;exact⟨a,xs,rfl,rr,λM2 H2 st=>bX.of (st _ _ hb.2 hb.1).1⟩
 |@tup _ a xs hb rr=>
  cases h;refine⟨a,xs,rfl,rr,λM2 H2 st=>?_⟩
  have:TupAt K M2 H2 a xs:=by
   rcases hb with ⟨na,hr⟩ |hk
   . exact .inl (st.rd na hr)
   . exact .inr hk
  exact this.sq
 |@fix _ a xs hb rr=>
  cases h;refine⟨a,xs,rfl,rr,λM2 H2 st=>?_⟩
  have:ng K M2 H2 a xs:=by
   rcases hb with ⟨na,o,hr⟩ |hk
   . exact .inl ⟨(st _ _ hr na).2,o,(st _ _ hr na).1⟩
   . exact .inr hk
  exact this.sq
 |_=>cases h
theorem zX(ta:Ym tp s.heap a xs)(tb:Ym tp s.heap b ys)
  (h:∀h',IsZip h' (s⁻¹+4) (s⁻¹+2) (s⁻¹+3) .none->IsPair h' (s⁻¹+2) (.ref s⁻¹) (.ref (s⁻¹+1))->
   IsPair h' (s⁻¹+3) .none .none->Hy tp h' s⁻¹ a 0->Hy tp h' (s⁻¹+1) b 0->h'.objs.size=s⁻¹+5->
   (∀c o,s.heap.get? c=some o->h'.get? c=some o)->Q (.ref (s⁻¹+4)) { s with heap:=h'}):wpAny (model prog w) A (call (.type "zip") [.ref a,.ref b]) Q E s:=by
 cases tp with
 |true=>exact zW ta tb h
 |false=>exact call_zip_2 ta tb h
theorem Qt{d1 d2:D}{l m:List D}(hK:z.K=X.K)(ha:cQ X z [e1,e2] g [.dat d1,.dat d2] g1)(h1:dF d1=some l)(h2:dF d2=some m)(hkd:isTup d1=isTup d2)(hg:Gl X "zip")(hm:X.mg "zip"=none)(dj:starEach [e1,e2] X.env=(false,eval e1 X.env)::starEach [e2] X.env)(iB:(backTo rp (starEach [e2] X.env)).any (·.1)=false) :
  jj X z (.Tuple es k pos) (.Call (.Name "zip" p) [e1,e2] [] rp) g (rQ l m) g1:=by
 refine jj.of λah s σ As M H Post I stt kk=>?_
 refine Call_ (fO I hg hm boot_zip (oC (ha.run I stt λvs us s1 H1 aO M1 I1 r1 q1 q2 q3=>?_) dj iB))
 cases q3 with
 |dat rp1 R=>cases R with
  |dat rp2 R=>
   cases R;obtain⟨u1,u2,rfl,Z3,ru2⟩:=vals2 r1;obtain⟨a,xs,rfl,rr1,sq1⟩:=rp1.sqX h1;obtain⟨b,ys,rfl,Hv,sq2⟩:=rp2.sqX h2;cases Z3;cases ru2;rw[<- hkd]at sq2;have sa:qu (isTup d1) X.K H1 a xs:=hK▸sq1 M1 H1 (aq.refl _ _);have sb:qu (isTup d1) X.K H1 b ys:=hK▸sq2 M1 H1 (aq.refl _ _);obtain⟨V6,_,V7,_⟩:=sa.real I1;obtain⟨V8,_,V9,_⟩:=sb.real I1;refine zX V7 V9 λh' er eI eO t1 t2 jy hk=>kk _ _ λR kR=>?_
   refine wpAny_pyIter_zip er ?_;have I2:L2.Inv X ah σ H1 { s1 with heap:=h'}:=I1.kept (t':=s1.toks) hk;refine⟨_,[s1⁻¹+4,s1⁻¹+2,s1⁻¹+3,s1⁻¹,s1⁻¹+1],_,Itz (isTup d1) X.K a b,H1,rfl,I2,Eb (s1⁻¹+4) (s1⁻¹+2) (s1⁻¹+3) s1⁻¹ (s1⁻¹+1) a b (by refine⟨?_,?_,?_,?_⟩ <;> (intro q;have q:(_:Nat)=_:=q;lia)) (by refine⟨?_,?_,?_⟩ <;> (intro q;have q:(_:Nat)=_:=q;lia)) (by refine⟨?_,?_,?_⟩ <;> (intro q;have q:(_:Nat)=_:=q;lia)),⟨er,eI,⟨_,_,eO⟩,t1,t2⟩,λc hc=>?_,kR _ H1 aO M1 q1 q2 λM2 H2 aL=>?_⟩
   .
    have hle:s1⁻¹<=c:=by simp only[d0,mE,AI]at hc;rcases hc with rfl |rfl |rfl |rfl |rfl <;> lia
    exact I1.BP hle (I1.hok.fresh hle)
   .
    have s1':=hK▸sq1 M2 H2 aL;have s2':=hK▸sq2 M2 H2 aL;have R1:=rr1.stay aL;have R2:=Hv.stay aL;refine⟨λn d hd=>?_,xs,ys,s1',s2',?_⟩
    .
     obtain⟨x,y,f1,f2,rfl⟩:=Ec hd;obtain⟨vx,e2,e3⟩:=R1.get f1;obtain⟨vy,e4,e5⟩:=R2.get f2;refine⟨⟨xs,ys,vx,vy,s1',s2',e2,e4⟩,λw H' hy z' g' σ' aA hz' s'=>?_⟩
     obtain⟨p,u,v,w1,w2,w3,rfl,rfl⟩:=hy;have w1:=w1 xs s1';have w2:=w2 ys s2';rw[e2]at w1;cases w1;rw[e4]at w2;cases w2;exact⟨s'.laid w3,aq.laid w3,.tup (.inl ⟨s'.fresh w3,.inl az⟩) (.cons (e3.stay (aq.laid w3)) (.cons (e5.stay (aq.laid w3)) .nil))⟩
    . rw[Ed,rr1.length,Hv.length];lia
end
end Ev
namespace L2
def yd(T:List Addr)(H:Hp):Prop:=∀b,(b∈T/\H b=some (.j3 #[]))\/(b∉T/\(H b=none\/∃o xs,H b=some (.iN o (.lst xs))))
theorem zY{P:Program}{w:World}{K:Frag}{mg mb:Str->Option Value}{CX:zc}{k:Nat}{fa a:Addr}{fd:FuncData}{x:Str}{sp:Sp}{s₁:Shared}{vs:List Value}{ns:List Int}{T:List Addr}
  (KX:K.In s₁.heap) (hT:∀q∈T,(∃c,s₁.heap.TableAt c q #[])/\K.lookup q=none) (hns:s₁.heap.Ns mainGlobals mg) (hb:s₁.heap.Ns builtinsNs mb) (hbb:∀x:Str,x≠ "__name__" ->mb x=bootBuiltins x) (hlim:s₁.heap.NoLimit) (hg:s₁.gens = #[])
  (ha:s₁.heap.get? a=some { cls:=.type "list",data:=.seq vs.toArray}) (hi:IntsAre vs ns) (hl:ns.length<=sizeLine) (hr:cG k callerA)
  (F:∀base:Heap,K.In base->base.Ns mainGlobals mg->iO P w K mg base CX k fa fd [x] sp) (hbind:∀(s:Shared) (u:Value),BindsTo s fd ⟨[u],[]⟩ [(x,u)])
  (TQ:∀H:Hp,yd T H->bX K H a (ns.map V.int)->sp [.ref a] H (λv _=>v=.bl true) λ_ _ _=>False)
  (hCX:∀H e s',CX [] H s₁ (λ_ _ _=>False) e s'->False) :
  codeAny (model P w) callerA (.call (.ref fa) ⟨[.ref a],[]⟩) (λr s'=>r=.ok (.ret (.bool true))/\OldK s₁.heap s'.heap/\s'.os=s₁.os/\AllBare s'.gens) s₁:=by
 have rv:=iG hi;have lenV:=hi.length;have aT:a∉T:=λh=>by
  obtain⟨⟨c,_,e⟩,_⟩:=hT a h;rw[ha]at e;cases e
 have core:∀H:Hp,yd T H->bX K H a (ns.map V.int)->j4 P w H s₁.heap->(∀b,H b≠none->b=a\/b∈T)->(H a≠none->K.lookup a=none)->
   codeAny (model P w) callerA (.call (.ref fa) ⟨[.ref a],[]⟩) (λr s'=>r=.ok (.ret (.bool true))/\OldK s₁.heap s'.heap/\s'.os=s₁.os/\AllBare s'.gens) s₁:=by
  intro H hO hS hok hA hK;have yf:∀{b:Addr}{o:Obj},s₁.heap.get? b=some o->H b=none->(qM s₁.heap H).get? b=some o:=λe n=>Bu e n
  have Vi:∀{b:Addr}{o:Obj}{es:Array DictEntry}{ep:Nat},s₁.heap.get? b=some o->o.data=.dict es ep->H b=none:=λ{b o es ep} e d=>by
   cases q:H b with
   |none=>rfl
   |some u=>
    rcases hA b (by rw[q];simp)with e' |e'
    . subst e';rw[ha]at e;cases e;have d':Data.seq vs.toArray _=Data.dict es ep:=d;cases d'
    . obtain⟨⟨c,_,e2⟩,_⟩:=hT b e';rw[e]at e2;cases e2;have d':Data.fields #[]=Data.dict es ep:=d;cases d'
  have Yv:∀{b:Addr}{m:Str->Option Value},s₁.heap.Ns b m->(qM s₁.heap H).Ns b m:=λ{b m} ⟨o,es,ep,e,d,r⟩=>⟨o,es,ep,yf e (Vi e d),d,r⟩
  have Mv:K.In (qM s₁.heap H):=λb o e=>yf (KX b o e) (by
   cases q:H b with
   |none=>rfl
   |some u=>
    rcases hA b (by rw[q];simp)with e' |e'
    . subst e';rw[hK (by rw[q];simp)]at e;cases e
    .
     rw[(hT b e').2]at e;cases e)
  have hM:Mod K mg (qM s₁.heap H):=⟨Mv,Yv hns,⟨mb,Yv hb,hbb⟩,let ⟨mc,h1,h2⟩:=hlim;⟨mc,Yv h1,h2⟩⟩
  have e0:Cd P w K mg (qM s₁.heap H) callerA [] s₁ H:=⟨rfl,hM,λb o e=>HQ e,Nat.le_of_eq (yW _ _),trivial,λb hb=>absurd (show b∈([]:List Addr)from hb) ⋯,hok,.of_eq hg⟩
  refine BH ((F _ Mv (Yv hns)).run callerA [] s₁ H ⟨[.ref a],[]⟩ [.ref a] [.ref a] _ _ hr e0 (hbind s₁ (.ref a)) (.cons rfl .nil) (TQ H hO hS)) λr s' h=>?_
  cases r with
  |error e=>exact (hCX H e s' h).elim
  |ok fl=>
   cases fl with
   |next=>exact False.elim h
   |brk=>exact False.elim h
   |cont=>exact False.elim h
   |ret u=>
    obtain⟨v,H',os,bare,un,J2,r',q⟩:=h;have q':v=.bl true:=q;subst q';obtain rfl:u=Value.bool true:=r';have tabs:∀b∈T,∀o,s₁.heap.get? b=some o->∃more,o={ cls:=.none,data:=.fields #[]}/\s'.heap.get? b=some { cls:=.none,data:=.fields more}:=λb hb o e=>by
     obtain⟨⟨c,_,e2⟩,_⟩:=hT b hb;rw[e]at e2;cases e2;rcases hO b with ⟨_,z⟩ |⟨z,_⟩
     . obtain⟨more,z2⟩:=un.jD b _ z;exact⟨_,rfl,J2 b _ z2⟩
     . exact absurd hb z
    have rest:∀b,b∉T->∀o,s₁.heap.get? b=some o->s'.heap.get? b=some o:=λb hb o e=>by
     cases q:H b with
     |none=>exact un.keep b o e q (by intro z;exact absurd (show b∈([]:List Addr)from z) ⋯) ⋯
     |some u=>
      rcases hO b with ⟨z,_⟩ |⟨_,z⟩
      . exact absurd z hb
      .
       rcases z with z |⟨ob,xs,z⟩
       . rw[q]at z;cases z
       . have z2:=un.jC b ob _ z;obtain⟨e1,_⟩:=hok b _ z;obtain⟨e2,_⟩:=J2 b _ z2;rw[e]at e1;cases e1;exact e2
    refine⟨rfl,⟨λb o e=>?_,λb o e=>?_⟩,os,bare⟩
    .
     by_cases hb:b∈T
     . obtain⟨more,rfl,e2⟩:=tabs b hb o e;obtain⟨⟨c,t⟩,_⟩:=hT b hb;exact .inr (.inl ⟨t.isCodeTable,rfl,#[],more,rfl,by rw[e2];simp⟩)
     . exact .inl (rest b hb o e)
    .
     by_cases hb:b∈T
     . obtain⟨more,rfl,e2⟩:=tabs b hb o e;exact⟨_,e2⟩
     . exact⟨_,rest b hb o e⟩
 have Ef:∀b∈T,s₁.heap.get? b=some { cls:=.none,data:=.fields #[]}:=λb hb=>by
  obtain⟨⟨c,_,e2⟩,_⟩:=hT b hb;exact e2
 cases hk:K.lookup a with
 |some o=>
  have e:=KX a o hk;rw[ha]at e;cases e;refine core (λb=>if b∈T then some (.j3 #[])else none) (λb=>?_) (.inr ⟨_,vs.toArray,_,hk,rfl,rfl,rfl,by rw[dC,lenV];exact hl,by simpa using rv⟩) (λb u z=>?_) (λb z=>?_) λz=>absurd (fR aT) z
  .
   by_cases hb:b∈T
   . exact .inl ⟨hb,fN hb⟩
   . exact .inr ⟨hb,.inl (fR hb)⟩
  .
   by_cases hb:b∈T
   . have z':=(fN hb).symm.trans z;cases z';exact Ef b hb
   . have z':=(fR hb).symm.trans z;cases z'
  .
   by_cases hb:b∈T
   . exact .inr hb
   . exact absurd (fR hb) z
 |none=>
  refine core (λb=>if b∈T then some (.j3 #[])else if b=a then some (.iN { cls:=.type "list",data:=.seq vs.toArray} (.lst (ns.map V.int)))else none) (λb=>?_) (.inl (.inr ⟨{ cls:=.type "list",data:=.seq vs.toArray},(fR aT).trans (fN rfl)⟩)) (λb u z=>?_) (λb z=>?_) λ_=>hk
  .
   by_cases hb:b∈T
   . exact .inl ⟨hb,fN hb⟩
   .
    refine .inr ⟨hb,?_⟩;by_cases hb2:b=a
    . exact .inr ⟨_,_,(fR hb).trans (fN hb2)⟩
    . exact .inl ((fR hb).trans (fR hb2))
  .
   by_cases hb:b∈T
   . have z':=(fN hb).symm.trans z;cases z';exact Ef b hb
   .
    have z1:=(fR hb).symm.trans z;by_cases hb2:b=a
    . have z':=(fN hb2).symm.trans z1;cases z';subst hb2;exact⟨ha,by rw[eR];exact hl,vs,_,rv,ha⟩
    . have z':=(fR hb2).symm.trans z1;cases z'
  .
   by_cases hb:b∈T
   . exact .inr hb
   .
    by_cases hb2:b=a
    . exact .inl hb2
    . exact absurd ((fR hb).trans (fR hb2)) z
end L2
namespace Ev
open L2
abbrev kG(p:Addr)(o:Obj):HO:=.ext λh=>h.get? p=some o
section
theorem S.grow(s:S z g σ As M H){q:Addr}{qn:Str}{ps:Array Value}{pos:Pos}{c:Addr}(hq:(q,qn)∈z.T)(hu:∀p∈z.T,p.1=q->p.2=qn)(hp:H q=some (.j3 ps))(ht:TriplesOk ps.toList)(hc:H c=some (gG qn c))
  (ok:TriplesOk (ps ++ #[rawInt pos.line,rawInt pos.col,.ref c]).toList) (am:∀pos' cv,codeAmong pos' (ps ++ #[rawInt pos.line,rawInt pos.col,.ref c]).toList=some cv->codeAmong pos' ps.toList=some cv\/cv=.ref c) :
  S z g σ As M (upd H q (.j3 (ps ++ #[rawInt pos.line,rawInt pos.col,.ref c]))) where
 sl:=s.sl.stay (aq.write (s.gW _ (s.tm _ hq))) λa ha u e=>by
  rcases s.live a (s.sub a ha)with ⟨xs,e2⟩ |e2
  . rw[au (λz=>by rw[z,hp]at e2;cases e2)];exact e
  .
   exact absurd e2 (λw=>by
    have:∃xs,H a=some (.lst xs):=by
     have key:∀{g:G}{σ:Sg}{As:List Addr},Slots z.K M H g σ As->∀a∈As,∃xs,H a=some (.lst xs):=λq=>by
      induction q with
      |nil=>intro a h;cases h
      |no _ ih=>exact ih
      |dat _ _ ih=>exact ih
      |own e _ _ ih=>intro a h;rcases d0.mp h with rfl |h;exact⟨_,e⟩;exact ih a h
     exact key s.sl a ha
    obtain⟨xs,e3⟩:=this;exact s.Mq e3 w)
 nd:=s.nd
 sub:=s.sub
 own:=s.own
 live:=λm hm=>by
  rcases s.live m hm with ⟨xs,e⟩ |e
  . exact .inl ⟨xs,by rw[au (λz=>by rw[z,hp]at e;cases e)];exact e⟩
  . exact .inr e
 keep:=λb u e hb hT=>by
  rw[au (λz=>hT (by rw[z];exact i3.mpr ⟨_,hq,rfl⟩))];exact s.keep b u e hb hT
 gW:=s.gW
 m0:=s.m0
 bm:=s.bm
 iP:=s.iP
 tab:=λp h=>by
  have lam:∀d T6,H d=some (gG T6 d)->upd H q (.j3 (ps ++ #[rawInt pos.line,rawInt pos.col,.ref c])) d=some (gG T6 d):=λd T6 e=>by
   rw[au (λz=>by rw[z,hp]at e;cases e)];exact e
  by_cases e:p.1=q
  .
   obtain⟨p1,p2⟩:=p;have e1:p1=q:=e;have e2:p2=qn:=hu _ h e;subst e1;subst e2;refine⟨_,az,ok,λpos' cv ec=>?_⟩
   rcases am pos' cv ec with ec |rfl
   . obtain⟨ps',h1,_,h3⟩:=s.tab _ h;have h1:H p1=some (.j3 ps'):=h1;rw[hp]at h1;cases h1;obtain⟨d,e1,e2⟩:=h3 pos' cv ec;exact⟨d,e1,lam d _ e2⟩
   . exact⟨c,rfl,lam c _ hc⟩
  .
   obtain⟨ps',h1,h2,h3⟩:=s.tab p h;refine⟨ps',by rw[au e];exact h1,h2,λpos' cv ec=>?_⟩
   obtain⟨d,e1,e2⟩:=h3 pos' cv ec;exact⟨d,e1,lam d _ e2⟩
 tm:=s.tm
 tt:=s.tt
end
theorem rR(h:TriplesOk l):TriplesOk (l++[.int i a,.int j b,v]):=by
 fun_induction TriplesOk l with
 |case1=>trivial
 |case2 _ _ _ _ _ rest ih=>exact ih h
 |case3=>exact h.elim
theorem wg(h:TriplesOk l)(e:codeAmong pos (l++[.int i a,.int j b,v])=some cv):codeAmong pos l=some cv\/cv=v:=by
 fun_induction TriplesOk l with
 |case1=>
  simp only[v6,codeAmong]at e;split at e
  . exact .inr (n0 e).symm
  . cases e
 |case2 line _ col _ c rest ih=>
  simp only[List.cons_append,codeAmong]at e ⊢
  split at e
  . rename_i q;rw[fN q];exact .inl e
  . rename_i q;rw[fR q];exact ih h e
 |case3=>exact h.elim
section
theorem yg(hok:j4 P w H h)(hq:H q=some (.j3 ps))(hq':H' q=some (.j3 (ps++more)))(k:∀b o,b≠q->h.get? b=some o->h'.get? b=some o)(tq:∃o,h'.get? q=some o)
  (kH:∀b,b<h.objs.size->b≠q->H' b=H b):Un fs [] H H' h h' where
 keep:=λb o e n _ _=>k b o (λz=>by rw[z,hq]at n;cases n) e
 slot:=λb o e n _ _=>⟨o.slots,k b o (λz=>by rw[z,hq]at n;cases n) e⟩
 free:=λb o e n _=>by rw[kH b (eJ e) (λz=>by rw[z,hq]at n;cases n)];exact n
 there:=λb o e _=>by
  by_cases hb:b=q
  . subst hb;exact tq
  . exact⟨o,k b o hb e⟩
 tups:=λb xs e=>by rw[kH b (hok.lt e) (λz=>by rw[z,hq]at e;cases e)];exact e
 jC:=λb o u e=>by rw[kH b (hok.lt e) (λz=>by rw[z,hq]at e;cases e)];exact e
 jD:=λb ps' e=>by
  by_cases hb:b=q
  . subst hb;rw[hq]at e;cases e;exact⟨_,hq'⟩
  . rw[kH b (hok.lt e) hb];exact⟨#[],by rw[e];simp⟩
end
section
theorem Eg(e:h.get? p=some o):dz P w H h p (kG p o):=⟨e,⟨o,e⟩,λ_ _ e k=>k _ e⟩
theorem J3(e:h.CodeRec (.ref c) q):dz P w H h c (gG q c):=by
 refine⟨e,?_,λh1 h2 e k=>?_⟩
 . obtain⟨c',o,vs,t,e1,e2,_⟩:=e;cases e1;exact⟨o,e2⟩
 . obtain⟨c',o,vs,t,e1,e2,e3⟩:=e;cases e1;exact⟨c,o,vs,t,rfl,k _ e2,e3⟩
theorem Eh(I:L2.Inv X ah σ H s)(hs:S z g σ As M H)(hq:(q,qn)∈z.T)(hu:∀p∈z.T,p.1=q->p.2=qn)(hcode:X.env.code=.ref c)(C:PySem.W.CodeHd X.base c q)(hqn:X.env.qual ++ "<lambda>"=qn)
  (hb:X.base.BuiltinsAt X.mg q) (Wc:mainGlobals≠q) (hdef:defaultsOf params X.env=([],[])) (B:aM X.env.scope scope)
  (h:∀(p c':Addr) (gK:Value) (cl:List (Str×Addr)) (H':Hp) (s':Shared),L2.Inv X ah σ H' s'->S z g σ As M H'->aq M H M H'->p∉M->
   H' p=some (kG p (PySem.W.kla_obj "<lambda>" qn params body scope cl ((X.mg "__name__").getD .none) c' gK))->H' c'=some (gG qn c')->
   (∀x c,cl.lookup x=some c->X.env.cells.lookup x=some c/\(x,NameKind.free)∈scope.names)->(∀y∈scope.names,y.2=.free->∃c,cl.lookup y.1=some c)->(∀b xs,H b=some (.lst xs)->H' b=some (.lst xs))->Q (.ref p) s') :
  wpAny (model X.prog X.w) X.A (eval (.Lambda params body scope pos) X.env) Q E s:=by
 refine PySem.W.kla_eval hdef ?_;rw[hqn];obtain⟨ps,hp,ht,hcs⟩:=hs.tab _ hq;have hp:H q=some (.j3 ps):=hp;have hP:s.heap.get? q=some (PySem.W.tabObj ps):=I.hok q _ hp;obtain⟨cl,hcl,zZ,J4⟩:=mX (scope:=scope) (env:=X.env) λy hy e=>I.ok.has y.1 (by
  rcases B.free y hy e with e |e
  . exact .inl e
  .
   exact .inr e)
 have qlt:q<s⁻¹:=eJ hP;cases hf:codeAmong pos ps.toList with
 |some cv=>
  obtain⟨c',rfl,hc'⟩:=hcs pos cv hf;refine PySem.W.kla_makeFunctionHit hcl I.ok.glob (I.ok.mod.glob.keeps I.bk) hcode (C.keeps I.bk) hP ht hf (hb.keeps I.bk) λgK h' tk hk jy=>?_
  have hk2:∀b o,s.heap.get? b=some o->(h'.push (PySem.W.kla_obj "<lambda>" qn params body scope cl ((X.mg "__name__").getD .none) c' gK)).get? b=some o:=λb o e=>bP _ (hk b o e)
  have fr:H h'.objs.size=none:=I.hok.fresh jy;have kH:∀b,b<s⁻¹->b≠q->upd H h'.objs.size (kG h'.objs.size (PySem.W.kla_obj "<lambda>" qn params body scope cl ((X.mg "__name__").getD .none) c' gK)) b=H b:=λb hb _=>au (i5 (eA hb jy))
  have T6:q≠h'.objs.size:=i5 (eA qlt jy);refine h _ c' gK cl (upd H h'.objs.size (kG h'.objs.size (PySem.W.kla_obj "<lambda>" qn params body scope cl ((X.mg "__name__").getD .none) c' gK))) _ (I.call' (s':={ s with heap:=h'.push (PySem.W.kla_obj "<lambda>" qn params body scope cl ((X.mg "__name__").getD .none) c' gK),toks:=tk}) (ch:=[]) rfl
   (yg (more:=#[]) I.hok hp (by rw[au T6,hp];simp) (λb o _ e=>hk2 b o e) ⟨_,hk2 _ _ hP⟩ kH) (I.hok.laid hk2 jy (Eg (eD _ rfl))) I.bare λb z=>nomatch z) (hs.laid fr) (aq.laid fr) (hs.fresh fr) az ?_ zZ J4 λb xs e=>by rw[au (aG e fr)];exact e
  rw[au (λz=>by rw[z,fr]at hc';cases hc')];exact hc'
 |none=>
  refine PySem.W.kla_makeFunction hcl I.ok.glob (I.ok.mod.glob.keeps I.bk) hcode (C.keeps I.bk) hP ht hf Wc (hb.keeps I.bk) λc' gK h' tk hx hc1 hc2 Wd hP'=>?_
  have jy:s⁻¹<=h'.objs.size:=Cn (Nat.lt_of_le_of_lt hc1 hc2);have hk2:∀b o,b≠q->s.heap.get? b=some o->(h'.push (PySem.W.kla_obj "<lambda>" qn params body scope cl ((X.mg "__name__").getD .none) c' gK)).get? b=some o:=λb o ne e=>bP _ (hx b o ne e)
  have frc:H c'=none:=I.hok.fresh hc1;have frp:H h'.objs.size=none:=I.hok.fresh jy;have qc:q≠c':=i5 (eA qlt hc1);have qp:q≠h'.objs.size:=i5 (eA qlt jy);have cp:c'≠h'.objs.size:=i5 hc2;have s1:=hs.laid (o:=gG qn c') frc;have e1:upd H c' (gG qn c') q=some (.j3 ps):=by rw[au qc];exact hp
  have s2:=s1.grow (pos:=pos) hq hu e1 ht az (by rw[Array.toList_append];exact rR ht) (λpos' cv e=>wg ht (by rw[Array.toList_append]at e;exact e))
  have Wf:upd (upd H c' (gG qn c')) q (.j3 (ps ++ #[rawInt pos.line,rawInt pos.col,.ref c'])) h'.objs.size=none:=by rw[au qp.symm,au cp.symm];exact frp
  have s3:=s2.laid (o:=kG h'.objs.size (PySem.W.kla_obj "<lambda>" qn params body scope cl ((X.mg "__name__").getD .none) c' gK)) Wf;have kH:∀b,b<s⁻¹->b≠q->upd (upd (upd H c' (gG qn c')) q (.j3 (ps ++ #[rawInt pos.line,rawInt pos.col,.ref c']))) h'.objs.size (kG h'.objs.size (PySem.W.kla_obj "<lambda>" qn params body scope cl ((X.mg "__name__").getD .none) c' gK)) b=H b:=λb hb ne=>by
   rw[au (i5 (eA hb jy)),au ne,au (i5 (eA hb hc1))]
  have hq3:upd (upd (upd H c' (gG qn c')) q (.j3 (ps ++ #[rawInt pos.line,rawInt pos.col,.ref c']))) h'.objs.size (kG h'.objs.size (PySem.W.kla_obj "<lambda>" qn params body scope cl ((X.mg "__name__").getD .none) c' gK)) q=some (.j3 (ps ++ #[rawInt pos.line,rawInt pos.col,.ref c'])):=by rw[au qp];exact az
  have hc3:upd (upd (upd H c' (gG qn c')) q (.j3 (ps ++ #[rawInt pos.line,rawInt pos.col,.ref c']))) h'.objs.size (kG h'.objs.size (PySem.W.kla_obj "<lambda>" qn params body scope cl ((X.mg "__name__").getD .none) c' gK)) c'=some (gG qn c'):=by rw[au cp,au qc.symm];exact az
  have hP2:=bP (PySem.W.kla_obj "<lambda>" qn params body scope cl ((X.mg "__name__").getD .none) c' gK) hP';have J2:j4 X.prog X.w (upd (upd (upd H c' (gG qn c')) q (.j3 (ps ++ #[rawInt pos.line,rawInt pos.col,.ref c']))) h'.objs.size (kG h'.objs.size (PySem.W.kla_obj "<lambda>" qn params body scope cl ((X.mg "__name__").getD .none) c' gK))) (h'.push (PySem.W.kla_obj "<lambda>" qn params body scope cl ((X.mg "__name__").getD .none) c' gK)):=λb u e=>by
   by_cases b1:b=h'.objs.size
   . subst b1;rw[az]at e;cases e;exact Eg (eD _ rfl)
   .
    by_cases b2:b=q
    . subst b2;rw[hq3]at e;cases e;exact hP2
    .
     by_cases b3:b=c'
     .
      subst b3;rw[hc3]at e;cases e;exact J3 (by
       obtain⟨d,o,vs,t,e1,e2,e3⟩:=Wd;exact⟨d,o,vs,t,e1,bP _ e2,e3⟩)
     .
      rw[au b1,au b2,au b3]at e;refine (I.hok b u e).stay (λd o hd eo=>hk2 d o (λz=>?_) eo) (λd ed=>?_) λd xs ed=>?_
      .
       rcases hd with hd |hd
       . exact b2 (hd▸z)
       . rw[z,hp]at hd;cases hd
      . rw[kH d (I.hok.lt ed) (λz=>by rw[z,hp]at ed;cases ed)];exact ed
      . rw[kH d (I.hok.lt ed) (λz=>by rw[z,hp]at ed;cases ed)];exact ed
  refine h _ c' gK cl _ _ (I.call' (s':={ s with heap:=h'.push (PySem.W.kla_obj "<lambda>" qn params body scope cl ((X.mg "__name__").getD .none) c' gK),toks:=tk}) (ch:=[]) rfl
   (yg I.hok hp hq3 hk2 ⟨_,hP2⟩ kH) J2 I.bare λb z=>nomatch z) s3 ?_ (hs.fresh frp) az hc3 zZ J4 λb xs e=>by rw[au (aG e frp),au (λz=>by rw[z,hp]at e;cases e),au (aG e frc)];exact e
  exact ((aq.laid frc).trans (aq.write (hs.gW _ (hs.tm _ hq)))).trans (aq.laid Wf)
end
noncomputable def ur(X:Cx)(N:List Str)(qual:Str)(scope:Scope)(p:Addr)(cd:Value)(cl:List (Str×Addr))(s:Shared)(H:Hp)(xe:Value->Shared->Prop):Cx where
 prog:=X.prog
 w:=X.w
 K:=X.K
 mg:=X.mg
 base:=X.base
 A:=X.A.deeper (PySem.W.envX qual scope s⁻¹ p cd cl)
 N:=N
 s₀:=s
 H₀:=H
 env:=PySem.W.envX qual scope s⁻¹ p cd cl
 outer:=X.stack
 stack:=PySem.W.envX qual scope s⁻¹ p cd cl::X.stack
 ex:=[]
 calm:=true
 fn:=λ_=>false
 pn:=[]
 xe:=xe
structure kI(N:List Str)(σ:Sg)(scope:Scope)(cl:List (Str×Addr))(H:Hp)(h:Heap):Prop where
 inj:∀x y c,cl.lookup x=some c->cl.lookup y=some c->x=y
 has:∀x,scope.names.lookup x=some .cell\/scope.names.lookup x=some .free->∃c,cl.lookup x=some c
 cell:∀x c,cl.lookup x=some c->H c=none/\∃v,h.IsCell c v
 loc:∀(i:Nat) (x:Str) (v:V),N[i]?=some x->σ[i]?=some (some v)->gR scope x->scope.names.lookup x=some .free/\∃u c,RelV v u/\cl.lookup x=some c/\h.IsCell c (some u)
 len:σ.length=N.length
section
theorem J5(I:L2.Inv X ah σ H s)(hc:X.calm=true)(hk:scope.kind=.function)(C:kI N σ0 scope cl H s.heap)(hk₁:∀b o,s.heap.get? b=some o->h₁.get? b=some o)(hns:h₁.Ns s⁻¹ m) :
  L2.Inv (ur X N qual scope p cd cl s H xe) [] σ0 H { s with heap:=h₁,toks:=tk}:=by
 have e0:=I.Ib;refine⟨⟨e0.mod,hk,rfl,rfl,d5 _,C.inj,C.has,(λ_ _ h=>nomatch h),λ_=>I.ok.hd hc,Around.frames_deeper e0.frames,.inr ⟨rfl,rfl⟩,(λb z=>nomatch z),e0.bs,e0.Bv,(λ_ _ _ z=>nomatch z),(λb z=>nomatch z),e0.jE,e0.HS⟩,
  rfl,e0.bare,Un.kept hk₁,⟨m,hns,λi x v h1 h2 h3=>?_⟩,λx c e=>?_,e0.hok.fresh (d5 _),λx c e=>(C.cell x c e).1,(λp hp=>nomatch hp),e0.hok.kept hk₁,C.len⟩
 . obtain⟨f,u,c,r,e1,e2⟩:=C.loc i x v h1 h2 h3;exact⟨u,r,.inr ⟨.inr f,c,e1,e2.keeps hk₁⟩⟩
 . obtain⟨v,q⟩:=(C.cell x c e).2;exact⟨v,q.keeps hk₁⟩
theorem Ei{z:Z}{g g':G}{As M:List Addr}{body:Expr}{params:Arguments}{pm gK:Value}{c' C:Addr}{R:Result->Shared->Prop}(I:L2.Inv X ah σ H s)(hc:X.calm=true)(hroom:X.A.depth<recursionLimit)
  (hp:s.heap.get? p=some (PySem.W.kla_obj "<lambda>" qual params body scope cl pm c' gK)) (Wd:s.heap.CodeRec (.ref c') qual) (hpar:bindArgs (PySem.W.kla_fn "<lambda>" qual params body scope cl pm (.ref c') gK) ⟨[],[]⟩=pure [])
  (hco:scope.isCoroutine=false) (hgen:scope.isGenerator=false) (hk:scope.kind=.function) (hnc:∀x∈scope.names,x.2≠.cell) (Cl:kI N σ0 scope cl H s.heap) (hS:S z g σ0 As M H)
  (hb:∀xe,PassesOwn (model X.prog X.w) (X.A.deeper (PySem.W.envX qual scope s⁻¹ p (.ref c') cl)) (PySem.W.envX qual scope s⁻¹ p (.ref c') cl) xe->Dr (ur X N qual scope p (.ref c') cl s H xe) z body g C g')
  (hR:∀x H1 aO M1 s'',Bm X.prog X.w X.stack H s (λc o h=>c=.ref C/\o=none/\h=H1) (.ref x) s''->S z g' σ0 aO M1 H1->aq M H M1 H1->R (.error (.ref x)) s'') :
  codeAny (model X.prog X.w) X.A (.call (.ref p) ⟨[],[]⟩) R s:=by
 refine PySem.W.kla_callFunE hroom hp rfl hco hgen rfl Wd ?_;rw[hpar];refine dL (wpAny_newFunctionEnv hnc (λy hy=>nomatch hy) (λh₁ hns hsb=>⟨(I.nolimit).fresh _ hsb,?_⟩) hk)
 have hk₁:∀b o,s.heap.get? b=some o->h₁.get? b=some o:=λb o e=>hsb.extBut b o (i5 (eJ e)) (bP _ e)
 refine PySem.W.kla_codeExpr ?_;obtain⟨t,q,k⟩:=hb (λe' s'=>wpAny (model X.prog X.w) (X.A.deeper (PySem.W.envX qual scope s⁻¹ p (.ref c') cl)) (leaving (PySem.W.envX qual scope s⁻¹ p (.ref c') cl) e') (λ_ s''=>R (.error e') s'') (λe'' s''=>R (.error e'') s'') s') PassesOwn.leaving
 have J:=J5 (N:=N) (qual:=qual) (p:=p) (cd:=.ref c') (σ0:=σ0) (tk:=s.toks+([]:List (Str×Value)).length) (xe:=λe' s'=>wpAny (model X.prog X.w) (X.A.deeper (PySem.W.envX qual scope s⁻¹ p (.ref c') cl)) (leaving (PySem.W.envX qual scope s⁻¹ p (.ref c') cl) e') (λ_ s''=>R (.error e') s'') (λe'' s''=>R (.error e'') s'') s') I hc hk Cl hk₁ hns
 refine lS (q [] _ σ0 H (λ_ _=>False) J (k σ0 As M H _ hS λpins1 s1 H1 aO M1 x I1 S1 st fl=>?_)) (λv s' h=>?_) λ_ _ h=>h
 . exact ql I1 rfl rfl rfl fl λs'' cx=>hR x H1 aO M1 s'' cx S1 st
 . obtain⟨_,_,_,_,h⟩:=h;exact h.elim
end
section
theorem Inv.cnl(I:L2.Inv X [] σ H s):∀y c,X.env.cells.lookup y=some c->c≠X.env.locals:=λy c e q=>by
 obtain⟨v,o,h1,h2⟩:=I.cell y c e;obtain⟨m,⟨o',es,ep,h3,h4,_⟩,_⟩:=I.loc;rw[q,h3]at h1;cases h1;rw[h4]at h2;cases h2
theorem Inv.touch(I:L2.Inv X [] σ H s)(hp:X.pn=[])(hT:X.s₀.heap.get? T=none)(hH:H T=none)(hf:∃o vs,s.heap.get? T=some o/\o.data=.fields vs)(k:∀b o,b≠T->s.heap.get? b=some o->h'.get? b=some o)(kT:∃o,h'.get? T=some o) :
  L2.Inv X [] σ H { s with heap:=h'}:=by
 obtain⟨oT,ts,eT,dT⟩:=hf;have J6:∀b o,X.s₀.heap.get? b=some o->b≠T:=λb o e q=>by rw[q,hT]at e;cases e
 have Wg:∀b o,s.heap.get? b=some o->(∀vs,o.data≠.fields vs)->b≠T:=λb o e d q=>by rw[q,eT]at e;cases e;exact d _ dT
 have cellK:∀c v,s.heap.IsCell c v->h'.IsCell c v:=λc v ⟨o,e,d⟩=>⟨o,k c o (Wg c o e λvs q=>by rw[d]at q;cases q) e,d⟩
 obtain⟨m,⟨o,es,ep,e,d,r⟩,hlk⟩:=I.loc;refine⟨I.ok,I.os,I.bare,⟨λb o e n hb hx=>?_,λb o e n hb hx=>?_,I.base.free,λb o e hx=>?_,I.base.tups,I.base.jC,I.base.jD⟩,⟨m,⟨o,es,ep,k _ _ (Wg _ _ e λvs q=>by rw[d]at q;cases q) e,d,r⟩,λi y v h1 h2 h3=>?_⟩,λy c e=>?_,I.free,I.dJ,λp hp2=>?_,λb u e=>?_,I.len⟩
 . exact k b o (J6 b o e) (I.base.keep b o e n hb hx)
 . obtain⟨sl,e1⟩:=I.base.slot b o e n hb hx;exact⟨sl,k b _ (J6 b o e) e1⟩
 . obtain⟨o',e1⟩:=I.base.there b o e hx;exact⟨o',k b _ (J6 b o e) e1⟩
 . obtain⟨u,r,q⟩:=hlk i y v h1 h2 h3;exact⟨u,r,q.imp id λ⟨q1,c,q2,q3⟩=>⟨q1,c,q2,cellK c _ q3⟩⟩
 . obtain⟨v,q⟩:=I.cell y c e;exact⟨v,cellK c v q⟩
 . rw[hp]at hp2;cases hp2
 .
  refine (I.hok b u e).stay (λc w hc q=>k c w (λz=>?_) q) (λ_ q=>q) λ_ _ q=>q
  subst z;rcases hc with rfl |hc
  . rw[hH]at e;cases e
  . rw[hH]at hc;cases hc
theorem uv(I:L2.Inv X [] σ H s)(hp:X.pn=[])(fl:sQ X.s₀.heap x C H s.heap)(h:∀s',L2.Inv X [] σ H s'->sQ X.s₀.heap x C H s'.heap->Q () s') :
  wpAny M A (setFlight (.ref x) none) Q E s:=by
 obtain⟨⟨oe,vs,he,hc,bI,hd,jy,hT⟩,TX,TY⟩:=id fl;unfold setFlight;rcases hT with hT |⟨T,oT,ts,h1,Qg,Ye,Yg,Hw,Hx,h3⟩
 . refine aS (l8 he hd hT ?_);rw[fR ⋯];exact dL (h s I fl)
 .
  refine aS (l8 he hd h1 ?_);rw[fN (show (Value.ref T != Value.none)=true from by simp)]
  refine AO Hw Hx (wT.mp h3).1 ?_;have other:∀b,b≠T->(s.heap.update T (Obj.mapFields (·.setIfInBounds 3 Value.none))).get? b=s.heap.get? b:=λb hb=>i9 _ _ (nN hb)
  have Wh:=t8 Hx (·.setIfInBounds 3 Value.none);have VM:=t0 (Obj.mapFields (·.setIfInBounds 3 Value.none)) Hw (xL Wh);refine h _ (Inv.touch I hp Ye Yg ⟨oT,ts,Hw,Hx⟩ (λb o hb e=>(other b hb).trans e) ⟨_,VM⟩) ⟨⟨oe,vs,(other x (nN Qg)).trans he,hc,bI,hd,jy,.inr ⟨T,_,_,h1,Qg,Ye,Yg,VM,Wh,?_⟩⟩,TX,TY⟩
  have:=(wT.mp h3).1;simp[this]
theorem Inv.Qu(I:L2.Inv X [] σ H s)(hp:X.pn=[])(fl:sQ X.s₀.heap x C H s.heap):L2.Inv X [] σ (upd H x (vL C x)) s:=by
 obtain⟨⟨oe,vs,he,hc,bI,hd,jy,hT⟩,TX,TY⟩:=id fl;have J6:∀b o,X.s₀.heap.get? b=some o->b≠x:=λb o e q=>by rw[q,TX]at e;cases e
 have Wg:∀b o,s.heap.get? b=some o->(∀vs,o.data≠.fields vs)->b≠x:=λb o e d q=>by rw[q,he]at e;cases e;exact d _ hd
 have Wi:∀b u,H b=some u->b≠x:=λb u e q=>by rw[q,TY]at e;cases e
 refine⟨I.ok,I.os,I.bare,⟨I.base.keep,I.base.slot,λb o e n hx=>?_,I.base.there,λb xs e=>?_,λb o u e=>?_,λb ps e=>?_⟩,I.loc,I.cell,?_,λy c e=>?_,λp hp2=>?_,λb u e=>?_,I.len⟩
 . rw[au (J6 b o e)];exact I.base.free b o e n hx
 . have:=I.base.tups b xs e;rw[au (Wi _ _ this)];exact this
 . have:=I.base.jC b o u e;rw[au (Wi _ _ this)];exact this
 . obtain⟨more,this⟩:=I.base.jD b ps e;exact⟨more,by rw[au (Wi _ _ this)];exact this⟩
 . obtain⟨m,⟨o,es,ep,e,d,_⟩,_⟩:=I.loc;rw[au (Wg _ _ e λvs q=>by rw[d]at q;cases q)];exact I.free
 . obtain⟨v,o,e1,d⟩:=I.cell y c e;rw[au (Wg _ _ e1 λvs q=>by rw[d]at q;cases q)];exact I.dJ y c e
 . rw[hp]at hp2;cases hp2
 .
  by_cases hb:b=x
  .
   subst hb;rw[az]at e;cases e;refine⟨⟨oe,he,hc,?_,bI⟩,⟨oe,he⟩,λh1 h2 ⟨o,q,r⟩ k=>⟨o,k o q,r⟩⟩
   unfold PySem.W.notCls;rw[hd]
  . rw[au hb]at e;exact (I.hok b u e).stay (λ_ _ _ q=>q) (λc q=>by rw[au (Wi _ _ q)];exact q) λc xs q=>by rw[au (Wi _ _ q)];exact q
abbrev Cx.marked(X:Cx)(e:Value)(E:Value->Shared->Prop):Cx:={ X with A:=X.A.mark (some e),calm:=false,xe:=E}
theorem Inv.marked(I:L2.Inv X ah σ H s)(e:Value)(E:Value->Shared->Prop):L2.Inv (Cx.marked X e E) ah σ H s:=
 ⟨⟨I.ok.mod,I.ok.kind,I.ok.glob,I.ok.blt,I.ok.above,I.ok.inj,I.ok.has,I.ok.Nx,(λh=>nomatch h),I.ok.frames,I.ok.stk,I.ok.TJ,I.ok.bs,I.ok.Bv,I.ok.sU,I.ok.vq,I.ok.jE,I.ok.HS⟩,I.os,I.bare,I.base,I.loc,I.cell,I.free,I.dJ,I.pin,I.hok,I.len⟩
theorem Inv.unmarked(ok:X.Ok)(I:L2.Inv (Cx.marked X e E) ah σ H s):L2.Inv X ah σ H s:=
 ⟨ok,I.os,I.bare,I.base,I.loc,I.cell,I.free,I.dJ,I.pin,I.hok,I.len⟩
theorem Inv.gone(I:L2.Inv X [] σ H s)(hp:X.pn=[])(hN:X.N.Nodup)(hi:X.N[i]?=some n)(hlk:∀(j:Nat) (y:Str) (v:V),X.N[j]?=some y->σ[j]?=some (some v)->gR X.env.scope y->∃u,RelV v u/\Look X.env s.heap m y u)
  {h':Heap}{w:Option Value}{tk:Nat} (hn':h'.Ns X.env.locals (λy=>if y=n then w else m y)) (hs:Heap.SameBut X.env.locals s.heap h'):L2.Inv X [] (σ.set i none) H { s with heap:=h',toks:=tk}:=by
 have J6:∀b o,X.s₀.heap.get? b=some o->b≠X.env.locals:=λb o e=>i5 (eA (eJ e) I.ok.above)
 refine⟨I.ok,I.os,I.bare,⟨λb o e n hb hx=>?_,λb o e n hb hx=>?_,I.base.free,λb o e hx=>?_,I.base.tups,I.base.jC,I.base.jD⟩,⟨_,hn',λj y v h1 h2 h3=>?_⟩,λy c e=>?_,I.free,I.dJ,λp hp2=>?_,λb u e=>?_,by rw[i4];exact I.len⟩
 . exact (hs.2 b (J6 b o e)).trans (I.base.keep b o e n hb hx)
 . obtain⟨sl,e1⟩:=I.base.slot b o e n hb hx;exact⟨sl,(hs.2 b (J6 b o e)).trans e1⟩
 . obtain⟨o',e1⟩:=I.base.there b o e hx;exact⟨o',(hs.2 b (J6 b o e)).trans e1⟩
 .
  by_cases hj:j=i
  .
   subst hj;have hl:j<σ.length:=by rw[I.len];exact (dE.mp h1).1
   rw[eQ hl]at h2;cases h2
  .
   rw[eC (nN hj)]at h2;obtain⟨u,r,q⟩:=hlk j y v h1 h2 h3;refine⟨u,r,?_⟩;have hyn:y≠n:=λq=>hj (mJ hN h1 (q▸hi))
   rcases q with ⟨k,e⟩ |⟨k,c,e,z⟩
   . exact .inl ⟨k,by show (if y=n then w else m y)=some u;rw[fR hyn];exact e⟩
   . exact .inr ⟨k,c,e,z.sameBut hs (Inv.cnl I y c e)⟩
 . obtain⟨v,q⟩:=I.cell y c e;exact⟨v,q.sameBut hs (Inv.cnl I y c e)⟩
 . rw[hp]at hp2;cases hp2
 .
  refine (I.hok b u e).stay (λc w hc q=>(hs.2 c (λz=>?_)).trans q) (λ_ q=>q) λ_ _ q=>q
  subst z;rcases hc with hc |hc
  . rw[<- hc,I.free]at e;cases e
  . rw[I.free]at hc;cases hc
end
end Ev
namespace PySem
section
theorem iT{h:Heap}{g:Array GenState}{d:Drawn}{t:Nat}{os:OsState}{e:Addr}{oe:Obj}{Q:Bool->Shared->Prop}
  (hC:h.get? C=some (excClassObj nm q C N bs bm hdct sn sub ab col dd k0 k1 k2 k3 k5 newId)) (hD:h.get? D=some (excClassObj nm' q' D N' bs' bm' Wj sn' sub' ab' col' dd' k0' k1' k2' k3' k5' newId'))
  (he:h.get? e=some oe) (hcls:oe.cls=.ref C) (hbase:bm'.contains (.type "BaseException")=true) (hup:(Value.ref C::bm).contains (.ref D)=true)
  (hq:Q true ⟨h,g,d,t,os⟩):wpAny M A (excMatches (.ref e) (.ref D)) Q E ⟨h,g,d,t,os⟩:=by
 have hcB:(Value.ref D::bm').contains (.type "BaseException")=true:=by rw[List.contains_cons,hbase,Bool.or_true]
 have f:=tc_notTuple;unfold excMatches
 repeat (first | (with_reducible refine wpAny_loadPart_at he ?_;rw[hcls]) |with_reducible refine wpAny_loadPart_at hD ?_ | (with_reducible refine wpAny_isSubtype_exc hD ?_;rw[hcB]) | (with_reducible refine wpAny_isSubtype_exc hC ?_;rw[hup]) |wp_step)
 exact hq
end
end PySem
namespace Ev
open L2
noncomputable def uw(K:Frag)(C D:Addr):Bool:=match K.lookup C with
 |some ⟨_,_,.cls cd,_⟩=>cd.mro.contains (.ref D)
 |_=>false
section
variable{x C D:Addr}
theorem z5(I:L2.Inv X [] σ H s)(hp:X.pn=[])(dj:X.stack=X.env::X.outer)(hf:X.env.frame=some X.env.locals)(hex:X.ex=[])(fl:sQ X.s₀.heap x C H s.heap)(hN:X.N.Nodup)
  (hg:Gl X ke) (hm:X.mg ke=some (.ref D)) (je:(ke==("__debug__":Str))=false) (qC:fc X.K C) (qD:fc X.K D) (up:uw X.K C D=true)
  (Yw:X.N[ie]?=some en) (len:X.env.scope.names.lookup en=some .local) (den:(en==("__debug__":Str))=false) (cen:(en==("__classdict__":Str))=false)
  (hir:X.N[ir]?=some er) (ler:Loc X.env.scope er) (fer:X.fn er=true\/X.env.scope.names.lookup er=some .local) (hsw:swapsWith (.Name en ux) (some (.Name er uy)) bH.line X.env=pure false)
  (h:∀s',L2.Inv X [] (((σ.set ie (some (.ref x))).set ir (some (.ref x))).set ie none) (upd H x (vL C x)) s'->Q .next s') :
  wpAny (model X.prog X.w) X.A (noteFrame (.ref x) X.env) (λ_ s2=>wpAny (model X.prog X.w) X.A (setFlight (.ref x) none) (λ_ s3=>wpAny (model X.prog X.w) X.A (handleBy (.ref x) X.env [.ExceptHandler (some (.Name ke kp)) (some en) [.Assign [.Name er uy] (.Name en ux) bH] oW]) Q E s3) E s2) E s:=by
 refine zP I hp dj hf hex fl λs2 I2 fl2=>?_
 refine wpAny_handleBy_cons (codeAny_handlers_test ?_) (by intro q;cases q)
 refine eU (X:=Cx.marked X (.ref x) E) (Inv.marked I2 _ _) hg hm ?_ je;obtain⟨bm,N,nm,qn,bs,hdct,sn,sub,ab,col,dd,k0,k1,k2,k3,k5,mN,hC,_,_,TC⟩:=rK I2.lT qC;obtain⟨bm',N',nm',T6,bs',Wj,sn',sub',ab',col',dd',k0',k1',k2',k3',k5',mN',hD,_,_,TD⟩:=rK I2.lT qD;obtain⟨⟨oe,vs,he,hc,_⟩,_⟩:=id fl2;have hup:(Value.ref C::bm).contains (.ref D)=true:=by
  unfold uw at up;split at up
  . rename_i cd _ ho;have:=(I2.lT _ _ ho).symm.trans hC;cases this;exact up
  . cases up
 obtain⟨hh,gg,dr,tt,oo⟩:=s2;refine iT hC hD he hc (TD.hasType ⋯) hup ?_;refine codeAny_handlers_suite_as ?_;refine uv I2 hp fl2 λs3 I3 yh=>?_
 have I4:=Inv.Qu I3 hp yh;refine gS I4 hN Yw (.inl len) (v:=.ref x) rfl (λs5 I5=>?_) (.inr len)
 have hl:ie<σ.length:=by rw[I.len];exact (dE.mp Yw).1
 refine lS (((xD (mO (X:=Cx.marked X (.ref x) (λ_ _=>False)) hN hir ler (cg Yw (.inl len) den cen) hsw fer)) [] s5 _ _ { nx:=λσ' H'=>σ'=(σ.set ie (some (.ref x))).set ir (some (.ref x))/\H'=upd H x (vL C x),rt:=λ_ _=>False} (Inv.marked I5 _ _) ⟨.ref x,eQ hl,rfl,rfl⟩)) (λf s6 q=>?_) λ_ _ z=>False.elim z
 cases f with
 |next=>
  obtain⟨σ',H',I6,rfl,rfl⟩:=q;have I7:=Inv.unmarked I.ok I6;obtain⟨m,hn,hlk⟩:=id I7.loc;refine wpAny_nameGoes_keeps (m:=m) len hn (by rw[I.ok.kind];rfl) λh' w hn' hs=>?_
  exact h _ (Inv.gone I7 hp hN Yw hlk hn' hs)
 |ret v=>obtain⟨_,_,_,_,_,q⟩:=q;exact q.elim
 |brk=>obtain⟨_,_,_,q⟩:=q;exact q.elim
 |cont=>obtain⟨_,_,_,q⟩:=q;exact q.elim
end
noncomputable abbrev zN(z:Z)(M:List Addr)(H:Hp):Z:=⟨z.K,H,M,[],z.T⟩
def noOwn:Slot->Slot
 |.own _=>.no
 |s=>s
section
variable{g g':G}
theorem Slots.noOwn{K:Frag}(q:Slots K M H g σ As):Slots K M H (g.map Ev.noOwn) σ []:=by
 induction q with
 |nil=>exact .nil
 |no _ ih=>exact .no ih
 |dat r _ ih=>exact .dat r ih
 |own _ _ _ ih=>exact .no ih
theorem Slots.Wk{K:Frag}(σ:Sg):Slots K M H (List.replicate σ.length .no) σ []:=by
 induction σ with
 |nil=>exact .nil
 |cons v σ ih=>exact .no ih
theorem z6{i:Nat}{l:List D}(h:(g.map Ev.noOwn)[i]?=some (.own l)):False:=by
 rw[oP]at h;cases e:g[i]? with
 |none=>rw[e]at h;cases h
 |some u=>rw[e]at h;cases u <;> cases h
theorem S.into(s:S z g σ As M H)(sl:Slots z.K M H gn σn [])(hn:∀(i:Nat) (l:List D),gn[i]?≠some (.own l)):S (zN z M H) gn σn [] M H where
 sl:=sl
 nd:=oI
 sub:=λa h=>nomatch h
 own:=λi a l e _=>absurd e (hn i l)
 live:=s.live
 keep:=λb o e _ _=>e
 gW:=λ_ h=>h
 m0:=λm hm=>by
  rcases s.live m hm with ⟨xs,e⟩ |e
  . intro q;rw[show H m=none from q]at e;cases e
  . obtain⟨q,hq,rfl⟩:=i3.mp e;obtain⟨ps,h1,_⟩:=s.tab q hq;intro z;rw[show H q.1=none from z]at h1;cases h1
 bm:=λb h=>nomatch h
 iP:=λp h=>nomatch h
 tab:=s.tab
 tm:=λp h=>s.gW _ (s.tm p h)
 tt:=s.tt
theorem S.after(s:S z g σ As M H)(hA:As=[])(s1:S (zN z M H) g' σ0 aO M1 H1)(st:aq M H M1 H1):S z g σ As M1 H1 where
 sl:=s.sl.stay st (λa h=>by rw[hA]at h;cases h)
 nd:=s.nd
 sub:=λa h=>by rw[hA]at h;cases h
 own:=s.own
 live:=s1.live
 keep:=λb o e hb ht=>s1.keep b o (s.keep b o e hb ht) (λh=>nomatch h) ht
 gW:=λm hm=>s1.gW m (s.gW m hm)
 m0:=s.m0
 bm:=s.bm
 iP:=s.iP
 tab:=s1.tab
 tm:=s.tm
 tt:=s.tt
theorem Slots.gj{K:Frag}{i:Nat}{v:Option V}(q:Slots K M H g σ As)(e:g[i]?=some .no):Slots K M H g (σ.set i v) As:=by
 induction q generalizing i with
 |nil=>exact .nil
 |no q ih=>cases i with
  |zero=>exact .no q
  |succ i=>exact .no (ih e)
 |dat r q ih=>cases i with
  |zero=>cases e
  |succ i=>exact .dat r (ih e)
 |own a b q ih=>cases i with
  |zero=>cases e
  |succ i=>exact .own a b (ih e)
theorem S.gj(s:S z g σ As M H)(e:g[i]?=some .no):S z g (σ.set i v) As M H where
 sl:=s.sl.gj e
 nd:=s.nd
 sub:=s.sub
 own:=λj a l e1 e2=>s.own j a l e1 (by
  rw[eC (λq=>by rw[<- q,e]at e1;cases e1)]at e2;exact e2)
 live:=s.live
 keep:=s.keep
 gW:=s.gW
 m0:=s.m0
 bm:=s.bm
 iP:=λp hp=>by
  obtain⟨h1,l,h2⟩:=s.iP p hp;exact⟨by rw[eC (λq=>by rw[<- q,e]at h2;cases h2)];exact h1,l,h2⟩
 tab:=s.tab
 tm:=s.tm
 tt:=s.tt
end
theorem yi(I:L2.Inv X ah σ H s)(B:aM X.env.scope scope)(nl:∀y∈scope.names,y.2≠.local)
  (zZ:∀x c,cl.lookup x=some c->X.env.cells.lookup x=some c/\(x,NameKind.free)∈scope.names) (J4:∀y∈scope.names,y.2=.free->∃c,cl.lookup y.1=some c):kI X.N σ scope cl H s.heap where
 inj:=λx y c h1 h2=>I.ok.inj x y c (zZ x c h1).1 (zZ y c h2).1
 has:=λx h=>by
  rcases h with h |h
  . exact absurd rfl (B.rz _ (L2.mem_of_lookup h))
  . exact J4 _ (L2.mem_of_lookup h) rfl
 cell:=λx c h=>⟨I.dJ x c (zZ x c h).1,I.cell x c (zZ x c h).1⟩
 loc:=λi x v h1 h2 h3=>by
  have hf:scope.names.lookup x=some .free:=by
   rcases h3 with h3 |h3 |h3
   . exact absurd rfl (nl _ (L2.mem_of_lookup h3))
   . exact absurd rfl (B.rz _ (L2.mem_of_lookup h3))
   . exact h3
  have hv:=B.free _ (L2.mem_of_lookup hf) rfl;obtain⟨m,_,hlk⟩:=I.loc;obtain⟨u,r,q⟩:=hlk i x v h1 h2 (.inr hv);obtain⟨c2,e2⟩:=J4 _ (L2.mem_of_lookup hf) rfl;rcases q with ⟨k,_⟩ |⟨_,c,e,z⟩
  . have k:X.env.scope.names.lookup x=some .local:=k;rcases hv with hv |hv <;> (have hv:X.env.scope.names.lookup x=_:=hv;rw[k]at hv;cases hv)
  . have:=(zZ _ _ e2).1;have this:X.env.cells.lookup x=some c2:=this;rw[e]at this;cases this;exact⟨hf,u,c2,r,e2,z⟩
 len:=I.len
theorem kI.un(c:kI N σ scope cl H h)(u:Un fs [] H H' h h'):kI N σ scope cl H' h':=by
 have key:∀x a v,cl.lookup x=some a->h.IsCell a v->h'.IsCell a v:=λx a v e ⟨o,e1,d⟩=>by
  obtain⟨sl,e2⟩:=u.any e1 (c.cell x a e).1 ⋯;exact⟨_,e2,d⟩
 refine⟨c.inj,c.has,λx a e=>?_,λi x v h1 h2 h3=>?_,c.len⟩
 . obtain⟨hn,v,o,e1,d⟩:=c.cell x a e;exact⟨u.free a o e1 hn ⋯,v,key x a v e ⟨o,e1,d⟩⟩
 . obtain⟨f,w,a,r,e,z⟩:=c.loc i x v h1 h2 h3;exact⟨f,w,a,r,e,key x a _ e z⟩
section
variable{C D p c':Addr}
 {N:List Str}{qn:Str}{scope:Scope}{cl:List (Str×Addr)}{body:Expr}{params:Arguments}{pm gK:Value}{g0 Ej:G}
noncomputable abbrev Ek (y ke en er:Str) (py aU oV kp uy ux bH oW iA:Pos):Stmt:=.Try [.Expr (.Call (.Name y py) [] [] aU) oV] [.ExceptHandler (some (.Name ke kp)) (some en) [.Assign [.Name er uy] (.Name en ux) bH] oW] [] [] iA
structure Mw(X:Cx)(C D:Addr)(y ke en er:Str)(iy ie ir:Nat):Prop where
 pn:X.pn=[]
 st:X.stack=X.env::X.outer
 fr:X.env.frame=some X.env.locals
 ex:X.ex=[]
 calm:X.calm=true
 nd:X.N.Nodup
 gk:Gl X ke
 mg:X.mg ke=some (.ref D)
 dk:(ke==("__debug__":Str))=false
 qC:fc X.K C
 qD:fc X.K D
 up:uw X.K C D=true
 kC:Ht X.K C
 ie:X.N[ie]?=some en
 le:X.env.scope.names.lookup en=some .local
 de:(en==("__debug__":Str))=false
 ce:(en==("__classdict__":Str))=false
 ir:X.N[ir]?=some er
 lr:Loc X.env.scope er
 fn:X.fn er=true\/X.env.scope.names.lookup er=some .local
 iy:X.N[iy]?=some y
 vy:gR X.env.scope y
 dy:(y==("__debug__":Str))=false
 cy:(y==("__classdict__":Str))=false
 room:X.A.depth<recursionLimit
structure dZ(params:Arguments)(scope:Scope):Prop where
 co:scope.isCoroutine=false
 gen:scope.isGenerator=false
 kind:scope.kind=.function
 nc:∀x∈scope.names,x.2≠.cell
 nl:∀x∈scope.names,x.2≠.local
 par:params=⟨[],[],none,[],[],none,[]⟩
theorem dZ.bind(h:dZ params scope):bindArgs (PySem.W.kla_fn "<lambda>" qn params body scope cl pm (.ref c') gK) ⟨[],[]⟩=pure []:=by rw[h.par];rfl
theorem Qv{ah:List (Addr×Obj)}{i:Nat}{x:Str}{v:V}{pos:Pos}{E:Value->Shared->Prop}{Q:Value->Shared->Prop}(I:L2.Inv X ah σ H s)(hN:X.N[i]?=some x)(hv:gR X.env.scope x)(hd:(x==("__debug__":Str))=false)(bI:(x==("__classdict__":Str))=false)(e:σ[i]?=some (some v))(h:∀u,RelV v u->Q u s) :
  wpAny (model X.prog X.w) X.A (eval (.Name x pos) X.env) Q E s:=by
 obtain⟨m,hn,hl⟩:=I.loc;obtain⟨u,r,l⟩:=hl i x v hN e hv;have fin:Q u s:=h u r;rcases l with ⟨hk,hm⟩ |⟨hk,c,hc,hcell⟩
 . exact CC (wpAny_loadName_local I.ok.kind hk hn hm fin) hd
 .
  rcases hk with hk |hk
  . exact CC (wpAny_loadName_cell I.ok.kind hk hc hcell fin) hd
  . exact CC (wpAny_loadName_free I.ok.kind hk hc hcell fin bI) hd
theorem J7(T:Mw X C D y ke en er iy ie ir)(L:dZ params scope)(I:L2.Inv X [] σ H s)(hS:S zf gf σ [] M H)(hK:zf.K=X.K)(hsw:swapsWith (.Name en ux) (some (.Name er uy)) bH.line X.env=pure false)(hsx:swapsWith (.Call (.Name y py) [] [] aU) none oV.line X.env=pure false)
  (hy:σ[iy]?=some (some (.ref p))) (iC:gf[ie]?=some .no) (hbr:ir∉zf.bor) (hnr:ie≠ir)
  (hp:H p=some (kG p (PySem.W.kla_obj "<lambda>" qn params body scope cl pm c' gK))) (hc':H c'=some (gG qn c')) (Cl:kI N σ0 scope cl H s.heap) (hs0:Slots zf.K M H g0 σ0 []) (hn0:∀(i:Nat) (l:List Ev.D),g0[i]?≠some (.own l))
  (hb:∀xe,PassesOwn (model X.prog X.w) (X.A.deeper (PySem.W.envX qn scope s⁻¹ p (.ref c') cl)) (PySem.W.envX qn scope s⁻¹ p (.ref c') cl) xe->Dr (ur X N qn scope p (.ref c') cl s H xe) (zN zf M H) body g0 C Ej)
  (h:∀s' σ' H' M' aA,L2.Inv X [] σ' H' s'->S zf (gf.set ir (.dat (.lq C))) σ' aA M' H'->aq M H M' H'->Q .next s') :
  wpAny (model X.prog X.w) X.A (exec (Ek y ke en er py aU oV kp uy ux bH oW iA) X.env) Q X.xe s:=by
 refine wpAny_Try_except (AQ (lS (wpAny_Expr_any (Q:=λ_ _=>False) ?_ I.quiet hsx) (λ_ _ z=>False.elim z) λ_ _ z=>z))
 have hpo:s.heap.get? p=some (PySem.W.kla_obj "<lambda>" qn params body scope cl pm c' gK):=(I.hok p _ hp).1;have Wd:s.heap.CodeRec (.ref c') qn:=(I.hok c' _ hc').1;refine oS (Qv I T.iy T.vy T.dy T.cy hy λu r=>?_)
 cases r;refine PySem.W.callWith_F0 ⟨_,_,_,_,hpo⟩ (CD (BH (Ei (R:=λr s'=>∃x H1 aO M1,r=.error (.ref x)/\Bm X.prog X.w X.stack H s (λc o h=>c=.ref C/\o=none/\h=H1) (.ref x) s'/\S (zN zf M H) Ej σ0 aO M1 H1/\aq M H M1 H1) I T.calm T.room hpo Wd L.bind L.co L.gen L.kind L.nc Cl (S.into hS hs0 hn0) hb
  λx H1 aO M1 s'' cx S1 st=>⟨x,H1,aO,M1,rfl,cx,S1,st⟩) λr s1 ⟨x,H1,aO,M1,e,cx,S1,st⟩=>?_))
 subst e;obtain⟨x',C',H',e,I1,fl,e1,_,e3⟩:=Dp T.ex I cx;cases e;cases e1;subst e3;refine z5 I1 T.pn T.st T.fr T.ex fl T.nd T.gk T.mg T.dk T.qC T.qD T.up T.ie T.le T.de T.ce T.ir T.lr T.fn hsw λs' I'=>?_
 have s2:=S.after hS rfl S1 st;have s3:=s2.laid (o:=vL C x) fl.no;have s4:S zf gf (σ.set ie (some (.ref x))) [] M1 (upd H' x (vL C x)):=s3.gj iC;obtain⟨Qc,s5⟩:=s4.fS (i:=ir) (d:=.lq C) (v:=.ref x) hbr (hK▸.lq T.kC (s2.fresh fl.no) az);have s6:S zf (gf.set ir (.dat (.lq C))) (((σ.set ie (some (.ref x))).set ir (some (.ref x))).set ie none) Qc M1 (upd H' x (vL C x)):=s5.gj (by rw[eC (nN hnr)];exact iC)
 exact h s' _ _ M1 Qc I' s6 (st.trans (aq.laid fl.no))
end
end Ev
namespace L2
theorem Wm{CX:zc}{P:Program}{w:World}{K:Frag}{mg:Str->Option Value}{base:Heap}{k:Nat}{f:Addr}{name qual:Str}{params:Arguments}{body:List Stmt}{scope:Scope}{dV kV doc pm bE ct oc:Value}{an od:Option Addr}
  {osl:Array (Option Value)}{N ps:List Str}{A:Around}{outer:List Env}{s:Shared}{H:Hp}{args:Args}{us:List Value}{vs:List V}{Q:VK}{E:XK} (lk:K.lookup f=some ⟨oc,od,.func (PySem.W.fnOf name qual params body scope dV kV doc pm an bE ct),osl⟩) (bI:PySem.W.codeIn K bE qual=true) (S:bV N ps scope)
  (hr:cG (k+1) A) (e0:Cd P w K mg base A outer s H) (hb:BindsTo s (PySem.W.fnOf name qual params body scope dV kV doc pm an bE ct) args (ps.zip us)) (r:Vals vs us) (hl:vs.length=ps.length)
  (hbody:∀s1,Inv (eZ CX P w K mg base N qual scope f bE A outer s H E) [] (start N vs) H s1->wpAny (model P w) (A.deeper (envOfC qual scope s⁻¹ f bE)) (execs body (envOfC qual scope s⁻¹ f bE)) (SP (eZ CX P w K mg base N qual scope f bE A outer s H E) [] { nx:=λ_ H'=>Q .non H',rt:=Q}) (eZ CX P w K mg base N qual scope f bE A outer s H E).xe s1) :
  codeAny (model P w) A (.call (.ref f) args) (CR CX outer P w H s Q E) s:=by
 have KX:K.In s.heap:=e0.mod.Bg.keeps λb o e=>(e0.bs b o e).1
 have lim:s.heap.NoLimit:=e0.mod.nolimit.keeps λb o e=>(e0.bs b o e).1
 have hkind:∀y∈ps.zip us,scope.names.lookup y.1=some .local\/(scope.names.lookup y.1=some .cell/\((cellsFrom (s⁻¹+1) scope.names []).lookup y.1).isSome=true):=λ⟨n,v⟩ hy=>by
  rcases S.par n (B6 hy).1 with q |q
  . exact .inl q
  . exact .inr ⟨q,A9 _ _ _ (.inl q)⟩
 refine codeAny_call_function hr.depth (KX _ _ lk) rfl S.co S.gen rfl (PySem.W.codeRec_of KX bI) (hb _ _ _ _ ?_);refine wpAny_newFunctionEnv_cells S.kind hkind λenv he s1 x=>?_
 subst he;refine⟨lim.keeps x.toInCall.keep,codeAny_func ?_⟩;have I:Inv (eZ CX P w K mg base N qual scope f bE A outer s H E) [] (start N vs) H s1:=p7 S hr.hd e0 hl r x;refine lS (hbody s1 I) (λfl s' hs=>?_) λe s' hs=>hs
 have fin:∀{σ':St}{H':Hp}{v:V}{u:Value},Inv (eZ CX P w K mg base N qual scope f bE A outer s H E) [] σ' H' s'->RelV v u->Q v H'->CE outer P w H s Q u s':=
  λ{σ' H' v u} J rv q=>⟨v,H',J.os,J.bare,J.base,J.hok,rv,q⟩
 cases fl with
 |ret u=>obtain⟨v,σ',H',J,rv,q⟩:=hs;exact fin J rv q
 |next=>obtain⟨σ',H',J,q⟩:=hs;exact fin (v:=V.non) (u:=Value.none) J rfl q
 |brk=>obtain⟨_,_,_,q⟩:=hs;exact False.elim q
 |cont=>obtain⟨_,_,_,q⟩:=hs;exact False.elim q
end L2
namespace Ev
open L2
structure Qw(K:Frag)(mg:Str->Option Value)(sc:Scope)(N:List Str)(C D:Addr)(y ke en er:Str)(ie ir:Nat):Prop where
 nd:N.Nodup
 gk:sc.names.lookup ke=some .globalImplicit
 mg:mg ke=some (.ref D)
 dk:(ke==("__debug__":Str))=false
 qC:fc K C
 qD:fc K D
 up:uw K C D=true
 kC:Ht K C
 eN:N[ie]?=some en
 le:sc.names.lookup en=some .local
 de:(en==("__debug__":Str))=false
 ce:(en==("__classdict__":Str))=false
 rN:N[ir]?=some er
 lr:Loc sc er
 yN:N[0]?=some y
 vy:gR sc y
 dy:(y==("__debug__":Str))=false
 cy:(y==("__classdict__":Str))=false
 ne:ie≠ir
 ie0:ie≠0
 ir0:ir≠0
theorem Qw.try{P:Program}{w:World}{K:Frag}{mg:Str->Option Value}{base:Heap}{N:List Str}{qual:Str}{sc:Scope}{f:Addr}{cd:Value}{A:Around}{outer:List Env}{s:Shared}{H:Hp}{E:XK}{C D:Addr}{y ke en er:Str}{ie ir k:Nat}
  (T:Qw K mg sc N C D y ke en er ie ir) (hr:cG k (A.deeper (envOfC qual sc s⁻¹ f cd))):Mw (eZ sP P w K mg base N qual sc f cd A outer s H E) C D y ke en er 0 ie ir:=
 ⟨rfl,rfl,rfl,rfl,rfl,T.nd,T.gk,T.mg,T.dk,T.qC,T.qD,T.up,T.kC,T.eN,T.le,T.de,T.ce,T.rN,T.lr,.inl rfl,T.yN,T.vy,T.dy,T.cy,by have:=hr.dp;show (A.deeper (envOfC qual sc s⁻¹ f cd)).depth<_;lia⟩
structure n5(X:Cx)(qn:Str)(q c:Addr):Prop where
 hq:(q,qn)∈cH X.K
 hu:∀p∈cH X.K,p.1=q->p.2=qn
 hcode:X.env.code=.ref c
 hC:∀b:Heap,X.K.In b->PySem.W.CodeHd b c q
 hqn:X.env.qual ++ "<lambda>"=qn
 hbi:∀b:Heap,X.K.In b->b.BuiltinsAt X.mg q
 Wc:mainGlobals≠q
structure Lt where
 params:Arguments
 body:Expr
 scope:Scope
 pos:Pos
noncomputable abbrev Lt.ex(l:Lt):Expr:=.Lambda l.params l.body l.scope l.pos
def jc(X:Cx)(qn:Str)(M:List Addr)(H:Hp)(l:Lt)(v:V):Prop:=∃p c' gK cl,v=.ref p/\p∉M/\c'∉M/\H p=some (kG p (PySem.W.kla_obj "<lambda>" qn l.params l.body l.scope cl ((X.mg "__name__").getD .none) c' gK))/\H c'=some (gG qn c')/\
 (∀x c,cl.lookup x=some c->X.env.cells.lookup x=some c/\(x,NameKind.free)∈l.scope.names)/\∀y∈l.scope.names,y.2=.free->∃c,cl.lookup y.1=some c
theorem jc.stay(st:aq M H M' H')(h:jc X qn M H l v):jc X qn M' H' l v:=by obtain⟨p,c',gK,cl,e,n1,n2,h1,h2,h3⟩:=h;exact⟨p,c',gK,cl,e,(st _ _ h1 n1).2,(st _ _ h2 n2).2,(st _ _ h1 n1).1,(st _ _ h2 n2).1,h3⟩
inductive cW(X:Cx)(qn:Str)(M:List Addr)(H:Hp):List Lt->List V->Prop
 |nil:cW X qn M H [] []
 |cons {l:Lt}{ls:List Lt}{v:V}{vs:List V}:jc X qn M H l v->cW X qn M H ls vs->cW X qn M H (l::ls) (v::vs)
theorem cW.stay(st:aq M H M' H')(h:cW X qn M H l v):cW X qn M' H' l v:=by
 induction h with
 |nil=>exact .nil
 |cons a _ ih=>exact .cons (a.stay st) ih
theorem cW.push(h:cW X qn M H l v)(e:jc X qn M H x y):cW X qn M H (l++[x]) (v++[y]):=by
 induction h with
 |nil=>exact .cons e .nil
 |cons a _ ih=>exact .cons a ih
theorem cW.get(h:cW X qn M H l v):∀{i:Nat}{x:Lt},l[i]?=some x->∃y,v[i]?=some y/\jc X qn M H x y:=by
 induction h with
 |nil=>intro i x e;cases e
 |cons a _ ih=>intro i x e;cases i with
  |zero=>cases (show some _=some x from e);exact⟨_,rfl,a⟩
  |succ i=>exact ih (i:=i) e
theorem cW.length(h:cW X qn M H l v):l.length=v.length:=by
 induction h with
 |nil=>rfl
 |cons _ _ ih=>exact congrArg (· + 1) ih
section
theorem S.ext(s:S z g σ As M H)(h:H a=some (.ext f)):a∉M:=λhm=>by
 rcases s.live a hm with ⟨xs,e⟩ |e
 . rw[h]at e;cases e
 . obtain⟨q,hq,rfl⟩:=i3.mp e;obtain⟨ps,h1,_⟩:=s.tab q hq;rw[h]at h1;cases h1
theorem S.wj(s:S z g σ As M H)(hm:a∈M)(hA:a∉As)(h0:z.H0 a=none)(h:H a=some (.lst xs)):S z g σ As M (upd H a (.lst xs')) where
 sl:=s.sl.stay (aq.write hm) λb hb u e=>by rw[au (show b≠a from λq=>hA (by rw[<- q];exact hb))];exact e
 nd:=s.nd
 sub:=s.sub
 own:=s.own
 live:=λm hm=>by
  by_cases e:m=a
  . subst e;exact .inl ⟨_,az⟩
  .
   rcases s.live m hm with ⟨ys,q⟩ |q
   . exact .inl ⟨ys,by rw[au e];exact q⟩
   . exact .inr q
 keep:=λb o e hb ht=>by rw[au (λq=>by rw[q,h0]at e;cases e)];exact s.keep b o e hb ht
 gW:=s.gW
 m0:=s.m0
 bm:=s.bm
 iP:=s.iP
 tab:=λp hp=>(s.tab p hp).keep λb o e n=>by rw[au (λq=>by rw[q,h]at e;cases e;exact n _ rfl)];exact e
 tm:=s.tm
 tt:=s.tt
noncomputable def tLam(X:Cx)(z:Z)(g:G)(qn:Str)(l:Lt):TE:=λσ H Q=>∃As M,S z g σ As M H/\∀v H',S z g σ As M H'->aq M H M H'->jc X qn M H' l v->(∀b xs,H b=some (.lst xs)->H' b=some (.lst xs))->Q v H'
theorem wk(hK:z.K=X.K)(mk:n5 X qn q c)(B:aM X.env.scope l.scope)(L:dZ l.params l.scope):PE X l.ex (tLam X z g qn l):=by intro ah s σ H Q I ⟨As,M,hs,hQ⟩;exact Eh I hs (by rw[hs.tt,hK];exact mk.hq) (by rw[hs.tt,hK];exact mk.hu) mk.hcode (mk.hC _ I.ok.mod.Bg) mk.hqn (mk.hbi _ I.ok.mod.Bg) mk.Wc (by rw[L.par];rfl) B λp c' gK cl H' s' I' S' st' np h1 h2 c1 c2 kl=>⟨.ref p,H',I',rfl,hQ _ H' S' st' ⟨p,c',gK,cl,rfl,np,S'.ext h2,h1,h2,c1,c2⟩ kl⟩
end
section
variable{st:Stmt}{rest:List Stmt}{f C D p c':Addr}
theorem Qx(hK:z.K=X.K)(hr:cG (k+2) X.A)(hcalm:X.calm=true)(Ff:Hs X.K fx qual st f fd)(dj:bA st=.Assign [.Name er z7] (.Constant .none j np) T7::Ek y ke en er py cpos0 oV kp uy ux bH oW iA::rest)(Sc:bV Nf [y] (aD st))
  (hbd:L2.Binds X.K fd [y] []) (T:Qw X.K X.mg (aD st) Nf C D y ke en er ie ir) (L:dZ params scope)
  (hbE:∀(Xf:Cx) (s:Shared) (H:Hp) (xe:Value->Shared->Prop) (zl:Z),Xf.prog=X.prog->Xf.w=X.w->Xf.K=X.K->Xf.mg=X.mg->Xf.base=X.base->cG (k+1) Xf.A->Xf.calm=true->PassesOwn (model Xf.prog Xf.w) (Xf.A.deeper (PySem.W.envX qn scope s⁻¹ p (.ref c') cl)) (PySem.W.envX qn scope s⁻¹ p (.ref c') cl) xe->zl.K=X.K->zl.bor=[]->Dr (ur Xf N qn scope p (.ref c') cl s H xe) zl body g0 C Ej)
  (hrest:∀(bE:Value) (A:Around) (outer:List Env) (s:Shared) (H:Hp) (E:XK),PySem.W.codeIn X.K bE qual=true->cG k (A.deeper (envOfC qual (aD st) s⁻¹ f bE))->∀zf:Z,zf.K=X.K->zf.bor=[]->dX (eZ sP X.prog X.w X.K X.mg X.base Nf qual (aD st) f bE A outer s H E).kZ zf rest ((List.replicate Nf.length .no).set ir (.dat (.lq C))) (.rt r) g3)
  (ho:cV [] g3 r=some r') (I1:L2.Inv X ah σ H s) (S1:S z g σ As M H) (hp1:H p=some (kG p (PySem.W.kla_obj "<lambda>" qn params body scope cl pm c' gK))) (hc1:H c'=some (gG qn c')) (Cl0:kI N σ0 scope cl H s.heap) (hs0:Slots z.K M H g0 σ0 []) (hn0:∀(i:Nat) (l:List Ev.D),g0[i]?≠some (.own l))
  {us:List Value} (rv:Vals [.ref p] us) {E:Value->Shared->Prop}{Q:Value->Shared->Prop} (hQ:∀u v H' s' aA M',L2.Inv X ah σ H' s'->RelV v u->S z g σ aA M' H'->aq M H M' H'->cU z g σ aA M' H' r' v->Q u s'):wpAny (model X.prog X.w) X.A (call (.ref f) us) Q E s:=by
 obtain⟨oc,od,kV,doc,pm,an,bE,ct,osl,rfl,lk,bI⟩:=Ff.ex;have aJ:us.length=1:=by rw[<- rv.length];rfl
 refine CD (BH (Wm (CX:=sP) (k:=k+1) (N:=Nf) (Q:=λv H'=>∃aA M',S z g σ aA M' H'/\aq M H M' H'/\cU z g σ aA M' H' r' v) (E:=λ_ _ _=>False) lk bI Sc hr I1.Ib (by have:=hbd s us I1.lT (by rw[l4];exact aJ);rw[l4]at this;exact this) rv rfl λs2 J=>?_) λrr s' hq'=>?_)
 ·
  rw[dj];have hr1:cG (k+1) (X.A.deeper (envOfC qual (aD st) s⁻¹ f bE)):=hr.deeper _;have hr2:cG k (X.A.deeper (envOfC qual (aD st) s⁻¹ f bE)):=hr1.mono (AC k);have TT:=T.try (P:=X.prog) (w:=X.w) (base:=X.base) (qual:=qual) (f:=f) (cd:=bE) (A:=X.A) (outer:=X.stack) (s:=s) (H:=H) (E:=λ_ _ _=>False) hr2
  have hNl:0<Nf.length:=(dE.mp T.yN).1;refine AQ (lS ((mO (X:=(eZ sP X.prog X.w X.K X.mg X.base Nf qual (aD st) f bE X.A X.stack s H (λ_ _ _=>False)).wish λ_ _=>False) T.nd T.rN T.lr Bx rfl (.inl rfl)) [] s2 _ _ { nx:=λσ' H'=>σ'=(start Nf [.ref p]).set ir (some .non)/\H'=H,rt:=λ_ _=>False} (J.wish _) ⟨rfl,rfl⟩) (λfl s3 q3=>?_) λ_ _ z=>False.elim z)
  cases fl with
  |ret u=>obtain⟨_,_,_,_,_,q⟩:=q3;exact q.elim
  |brk=>obtain⟨_,_,_,q⟩:=q3;exact q.elim
  |cont=>obtain⟨_,_,_,q⟩:=q3;exact q.elim
  |next=>
   obtain⟨σ3,H3,I3,e1,e2⟩:=q3;subst e1 e2;have I3:=I3.cS;have len0:(start Nf [.ref p]).length=Nf.length:=by have:=J.len;exact this
   have Wn:Slots z.K M H3 (List.replicate Nf.length .no) (start Nf [.ref p]) []:=by rw[<- len0];exact Slots.Wk _
   have Wo:∀(i:Nat) (l:List Ev.D),(List.replicate Nf.length Slot.no)[i]?≠some (.own l):=λi l e=>by
    have:=i8 e;rw[t7]at this;cases this.2
   have S3:S (zN z M H3) (List.replicate Nf.length .no) (start Nf [.ref p]) [] M H3:=S.into S1 Wn Wo;obtain⟨nJ,S4⟩:=S3.fS (i:=ir) (d:=.non) (v:=.non) (λh=>nomatch h) .non
   have hA4:nJ=[]:=by
    have key:∀{g:G}{σ:Sg}{As:List Addr},Slots z.K M H3 g σ As->(∀(i:Nat) (l:List Ev.D),g[i]?≠some (.own l))->As=[]:=λq=>by
     induction q with
     |nil=>intro _;rfl
     |no _ ih=>intro h;exact ih λi l e=>h (i+1) l e
     |dat _ _ ih=>intro h;exact ih λi l e=>h (i+1) l e
     |own _ _ _ ih=>intro h;exact absurd rfl (h 0 _)
    refine key S4.sl λi l e=>?_
    by_cases hi:i=ir
    .
     subst hi;rw[eQ (by rw[fI];exact (dE.mp T.rN).1)]at e
     cases e
    . rw[eC (nN hi)]at e;exact Wo i l e
   subst hA4;have hy:((start Nf [.ref p]).set ir (some .non))[0]?=some (some (.ref p)):=by rw[eC T.ir0];rfl
   have iC:((List.replicate Nf.length Slot.no).set ir (.dat .non))[ie]?=some .no:=by rw[eC (nN T.ne),y8,fN (dE.mp T.eN).1]
   have un3:Un (frs X.stack) [] H3 H3 s.heap s3.heap:=I3.base;have T8:(zN z M H3).K=(eZ sP X.prog X.w X.K X.mg X.base Nf qual (aD st) f bE X.A X.stack s H3 (λ_ _ _=>False)).K:=hK
   refine AQ (J7 (zf:=zN z M H3) (g0:=g0) (σ0:=σ0) (N:=N) TT L I3 S4 T8 rfl rfl hy iC (λh=>nomatch h) T.ne hp1 hc1 (Cl0.un un3) hs0 hn0
    (λxe hx=>hbE _ s3 H3 xe _ rfl rfl rfl rfl rfl hr1 rfl hx hK rfl) λs4 σ4 H4 M4 nJ I4 S5 vD=>?_)
   obtain⟨t,pt,kt⟩:=hrest bE X.A X.stack s H3 (λ_ _ _=>False) bI hr2 (zN z M H3) hK rfl
   rw[List.set_set]at S5;refine pt.kZ [] s4 σ4 H4 _ I4 (kt σ4 nJ M4 H4 _ S5 λv σ5 Qc M5 H5 S6 ZS R6=>?_)
   obtain⟨M6,S7,ZT,R7⟩:=S1.leave (rs:=[]) (vs:=[]) (gs:=[]) (gO:=g) .nil rfl oI S6 (vD.trans ZS) R6 rfl ho;exact⟨_,M6,S7,ZT,R7⟩
 .
  cases rr with
  |error ev=>exact False.elim hq'
  |ok Z2=>
   cases Z2 with
   |ret u=>
    obtain⟨v,H',I',r1,aA,M',a,b,d⟩:=I1.after (Q:=λv H'=>∃aA M',S z g σ aA M' H'/\aq M H M' H'/\cU z g σ aA M' H' r' v) hq'
    exact hQ u v H' s' aA M' I' r1 a b d
   |next=>exact False.elim hq'
   |brk=>exact False.elim hq'
   |cont=>exact False.elim hq'
end
def wm(Y X:Cx)(z:Z)(g:G)(qn:Str)(l:Lt)(r':R)(f:Addr):Prop:=
 ∀{ah:List (Addr×Obj)}{σ1 σ0:Sg}{H1:Hp}{s1:Shared}{g1:G}{As A0 M:List Addr}{p c':Addr}{cl:List (Str×Addr)}{pm gK:Value}{us:List Value}{Q E:Value->Shared->Prop},L2.Inv Y ah σ1 H1 s1->S z g1 σ1 As M H1->H1 p=some (kG p (PySem.W.kla_obj "<lambda>" qn l.params l.body l.scope cl pm c' gK))->H1 c'=some (gG qn c')->
  kI X.N σ0 l.scope cl H1 s1.heap->Slots z.K M H1 g σ0 A0->Vals [.ref p] us->(∀u v H' s' aA M',L2.Inv Y ah σ1 H' s'->RelV v u->S z g1 σ1 aA M' H'->aq M H1 M' H'->cU z g1 σ1 aA M' H' r' v->Q u s')->wpAny (model Y.prog Y.w) Y.A (call (.ref f) us) Q E s1
section
variable{st:Stmt}
theorem J8(hK:z.K=X.K)(Ff:Hs X.K fx qual st f fd)(hg:Gl X fx)(hm:X.mg fx=some (.ref f))(je:(fx==("__debug__":Str))=false)(mk:n5 X qn q c)(B:aM X.env.scope l.scope)(L:dZ l.params l.scope)(hcall:wm X X z g qn l r' f):aB X z (.Call (.Name fx fp) [l.ex] [] aU) g r' g:=by
 refine⟨λσ H Q=>∃As M,S z g σ As M H/\∀v H' aA M',S z g σ aA M' H'->aq M H M' H'->cU z g σ aA M' H' r' v->Q v H',λah s σ H Q I ⟨As,M,hs,hQ⟩=>?_,λσ As M H Q s kq=>⟨As,M,s,λv H' aA M'=>kq v H' aA M'⟩⟩
 refine oS (eU I hg hm ?_ je);refine AA (h₀:=X.base) I.ok.mod.Bg Ff.kp (lS ((bC (wk (z:=z) (g:=g) hK mk B L) dR rfl) aU ah s σ H (λvs H'=>∃v,vs=[v]/\S z g σ As M H'/\aq M H M H'/\jc X qn M H' l v) I ⟨As,M,hs,λv H' a b d _=>⟨v,rfl,a,b,d⟩⟩) (λus s1 q1=>?_) λ_ _ z=>z) rfl rfl
 obtain⟨vs,H1,I1,rv,_,rfl,S1,dB,p,c',gK,cl,rfl,np1,nc1,hp1,hc1,zZ,J4⟩:=q1;exact⟨I1.lT,hcall I1 S1 hp1 hc1 (yi I1 B L.nl zZ J4) S1.sl rv λu v H' s' aA M' I' r1 a b d=>⟨v,H',I',r1,hQ v H' aA M' a (dB.trans b) d⟩⟩
end
section
theorem El(hw:∀u,RelV w u->u=cv):eV X (.builtin "isinstance") (λxs H Q=>∃x M d b,xs=[x,w]/\Pk X.K M H d x/\PySem.W.kitOne X.K (Bh d) cv=some b/\Q (.bl b) H):=by intro ah s σ H xs us Q I r h;obtain⟨x,M,d,b,rfl,p,e,q⟩:=h;obtain⟨u,w',rfl,r1,r2⟩:=vals2 r;obtain rfl:=hw _ r2;exact CW I p r1 e λtk=>⟨.bl b,H,I.tok tk,rfl,q⟩
theorem Em(hK:z.K=X.K)(h:aB X z a g r1 g1)(hp:pk r1 g1=some d)(he:∀M H v,Pk X.K M H d v->PySem.W.kitOne X.K (Bh d) cv=some b)
  (hg:Gl X "isinstance") (hm:X.mg "isinstance"=none) (hv:bootBuiltins "isinstance"=some (.builtin "isinstance")) (hw:∀u,RelV w u->u=cv) (ZL:PE X (.Name T pT) (tC w))
  (hs:starEach [a,.Name T pT] X.env=(false,eval a X.env)::starEach [.Name T pT] X.env):aB X z (.Call (.Name "isinstance" p) [a,.Name T pT] [] pos) g (.dat (.bl b)) g1:=by
 obtain⟨t,q,k⟩:=h;refine⟨_,jG (El hw) hg hm hv (bC q (bC ZL dR) hs) ⋯ ⋯ hs,λσ As M H Q s kk=>k σ As M H _ s λv H' aA M' s' st R=>?_⟩
 have p:=hK▸s'.pk (aq.refl _ _) R hp;exact⟨v,M',d,b,rfl,p,he _ _ _ p,kk _ H' aA M' s' st (.bl b)⟩
end
open L2 PySem.W
noncomputable def iN:Slot->Slot
 |.own l=>.dat (.lst l)
 |s=>s
noncomputable def flat:D->Bool
 |.non=>true
 |.bl _=>true
 |.int _=>true
 |.str _=>true
 |_=>false
theorem Rep.flat{K:Frag}{M M':List Addr}{H H':Hp}{d:D}{v:V}(r:Rep K M H d v)(h:Ev.flat d=true):Rep K M' H' d v:=by
 cases r with
 |non=>exact .non
 |bl b=>exact .bl b
 |int i=>exact .int i
 |str x=>exact .str x
 |_=>cases h
section
variable{g g':G}
theorem Slots.atA{K:Frag}(q:Slots K M H g σ As){a:Addr}(h:a∈As):∃(i:Nat) (l:List D) (xs:List V),g[i]?=some (Slot.own l)/\σ[i]?=some (some (V.ref a))/\H a=some (.lst xs):=by
 induction q with
 |nil=>cases h
 |no _ ih=>obtain⟨i,l,xs,h1,h2,h3⟩:=ih h;exact⟨i+1,l,xs,h1,h2,h3⟩
 |dat _ _ ih=>obtain⟨i,l,xs,h1,h2,h3⟩:=ih h;exact⟨i+1,l,xs,h1,h2,h3⟩
 |own e _ _ ih=>
  rcases d0.mp h with rfl |h
  . exact⟨0,_,_,rfl,rfl,e⟩
  . obtain⟨i,l,xs,h1,h2,h3⟩:=ih h;exact⟨i+1,l,xs,h1,h2,h3⟩
theorem Slots.iN{K:Frag}{M0:List Addr}(q:Slots K M H g σ As)(hl:∀m∈M0,m∈M)(hn:∀a∈As,a∉M0):Slots K M0 H (g.map Ev.iN) σ []:=by
 induction q with
 |nil=>exact .nil
 |no _ ih=>exact .no (ih hn)
 |dat r _ ih=>exact .dat (r.stay (aq.less hl)) (ih hn)
 |own e r _ ih=>exact .dat (.lst ⟨hn _ dA,e⟩ (r.stay (aq.less hl))) (ih λa ha=>hn a (b0 _ ha))
theorem J9{i:Nat}{l:List D}(h:(g.map Ev.iN)[i]?=some (.own l)):False:=by
 rw[oP]at h;cases e:g[i]? with
 |none=>rw[e]at h;cases h
 |some u=>rw[e]at h;cases u <;> cases h
theorem S.h0(s:S z g σ As M H)(hb:z.bor=[])(h:a∈As):z.H0 a=none:=by
 obtain⟨i,l,xs,h1,h2,_⟩:=s.sl.atA h;rcases s.own i a l h1 h2 with ⟨q,_⟩ |q
 . rw[hb]at q;cases q
 . exact q
theorem S.Qy(s:S z g σ As M H)(hb:z.bor=[]):S z (g.map Ev.iN) σ [] (M.filter λm=>decide (m∉As)) H where
 sl:=s.sl.iN (λm hm=>(hV.mp hm).1) λa ha hm=>by have:=(hV.mp hm).2;simp at this;exact this ha
 nd:=oI
 sub:=λa h=>nomatch h
 own:=λi a l e _=>(J9 e).elim
 live:=λm hm=>s.live m (hV.mp hm).1
 keep:=s.keep
 gW:=λm hm=>hV.mpr ⟨s.gW m hm,by
  have:m∉As:=λh=>s.m0 m hm (s.h0 hb h)
  simpa using this⟩
 m0:=s.m0
 bm:=s.bm
 iP:=λp hp=>by
  have:p.1∈z.bor:=pE (f:=(·.1)) hp;rw[hb]at this;cases this
 tab:=s.tab
 tm:=s.tm
 tt:=s.tt
theorem S.thaw(s:S z g σ As M H)(hb:z.bor=[]){g1:G}{σ1:Sg}(s1:S z g1 σ1 aO M1 H1)(st:aq (M.filter λm=>decide (m∉As)) H M1 H1):S z g σ As (As++M1) H1/\aq M H (As++M1) H1:=by
 have nA:∀a∈As,a∉M.filter λm=>decide (m∉As):=λa ha hm=>by have:=(hV.mp hm).2;simp at this;exact this ha
 have stM:aq M H (As++M1) H1:=λb o e hb'=>by
  have h1:=st b o e λhm=>hb' (hV.mp hm).1
  refine⟨h1.1,λhm=>?_⟩
  rcases o0.mp hm with hm |hm
  . exact hb' (s.sub b hm)
  . exact h1.2 hm
 have lists:∀a∈As,∃xs,H1 a=some (.lst xs):=λa ha=>by
  obtain⟨_,_,xs,_,_,e⟩:=s.sl.atA ha;exact⟨xs,(st a _ e (nA a ha)).1⟩
 refine⟨⟨s.sl.stay stM λa ha o e=>(st a o e (nA a ha)).1,s.nd,λa ha=>AL _ ha,s.own,λm hm=>?_,s1.keep,λm hm=>lL _ (s1.gW m hm),s.m0,s.bm,s.iP,s1.tab,s.tm,s.tt⟩,stM⟩
 rcases o0.mp hm with hm |hm
 . exact .inl (lists m hm)
 . exact s1.live m hm
theorem Ka(hb:z.bor=[])(hf:Ev.flat d=true)(h:aB X z e (g.map Ev.iN) (.dat d) g1):aB X z e g (.dat d) g:=by
 obtain⟨t,q,k⟩:=h;refine⟨t,q,λσ As M H Q s kk=>k σ [] _ H Q (s.Qy hb) λv H1 aO M1 s1 st R=>?_⟩
 obtain⟨a,b⟩:=s.thaw hb s1 st;exact kk v H1 As _ a b (Rep.flat R hf)
end
def LL(X:Cx)(z:Z)(g:G)(qn:Str)(ic:Nat)(M0:List Addr)(H0:Hp)(ls:List Lt)(σ:Sg)(H:Hp):Prop:=
 ∃As M a vs,S z g σ As M H/\aq M0 H0 M H/\σ[ic]?=some (some (.ref a))/\a∈M/\a∉As/\z.H0 a=none/\H a=some (.lst vs)/\cW X qn M H ls vs
theorem wu{n:Nat}(h:n<1000):n<=sizeLine:=by rw[l5];lia
section
theorem z8(hK:z.K=X.K)(mk:n5 X qn q c)(B:aM X.env.scope l.scope)(L:dZ l.params l.scope)(hN:X.N.Nodup)(hi:X.N[ic]?=some y)(hx:Loc X.env.scope y)(hf:X.fn y=true\/X.env.scope.names.lookup y=some .local)(hg:g[ic]?=some .no) :
  ∃t,PS X (.Assign [.Name y py] (.List [l.ex] lp) pos) t/\∀σ As M H (E:Ends),S z g σ As M H->(∀σ' H',LL X z g qn ic M H [l] σ' H'->E.nx σ' H')->t E σ H:=by
 refine⟨_,mO hN hi hx (vF (bC (wk (z:=z) (g:=g) hK mk B L) dR rfl)) rfl hf,λσ As M H E s kE=>⟨As,M,s,λv H' s' st' la kl=>⟨wu (show 1<1000 by decide),λp hp=>kE _ _ ?_⟩⟩⟩
 have s2:=s'.aN (xs:=[v]) hp;have hl:ic<σ.length:=by rw[<- s.sl.length];exact (dE.mp hg).1
 have aL:aq M H' (p::M) (upd H' p (.lst [v])):=aq.aN hp;exact⟨As,p::M,p,[v],s2.gj hg,st'.trans aL,eQ hl,dA,λh=>s'.fresh hp (s'.sub p h),s'.bR hp,az,.cons (la.stay aL) .nil⟩
theorem wz(hK:z.K=X.K)(mk:n5 X qn q c)(B:aM X.env.scope l.scope)(L:dZ l.params l.scope)(hi:X.N[ic]?=some y)(hv:gR X.env.scope y)(hd:(y==("__debug__":Str))=false)(bI:(y==("__classdict__":Str))=false)(hls:ls.length<1000)(hline:(bH.endLine==aU.line)=true) :
  ∃t,PS X (.Expr (.Call (.Attribute (.Name y pn) "append" bH) [l.ex] [] aU) pos) t/\∀σ H M0 H0 (E:Ends),LL X z g qn ic M0 H0 ls σ H->(∀H',LL X z g qn ic M0 H0 (ls++[l]) σ H'->E.nx σ H')->t E σ H:=by
 refine⟨_,lU (tE u7 AS AT iF (cg hi hv hd bI) (bC (wk (z:=z) (g:=g) hK mk B L) dR rfl) rfl rfl hline rfl rfl) rfl,λσ H M0 H0 E h kE=>?_⟩
 obtain⟨As,M,a,vs,s,st,e1,hm,hA,h0,ha,la⟩:=h;refine⟨.ref a,e1,.inl ⟨rfl,vs,bX.of ha⟩,As,M,s,λv H' s' st' la' kl=>⟨a,vs,v,rfl,rfl,kl a vs ha,by rw[<- la.length,l5];lia,kE _ ?_⟩⟩
 exact⟨As,M,a,vs++[v],s'.wj hm hA h0 (kl a vs ha),(st.trans st').trans (aq.write hm),e1,hm,hA,h0,az,((la.stay st').push la').stay (aq.write hm)⟩
end
theorem kI.un'(c:kI N σ scope cl H h)(u:Un fs ex H H' h h')(hx:∀x a,cl.lookup x=some a->a∉ex):kI N σ scope cl H' h':=by
 have key:∀x a v,cl.lookup x=some a->h.IsCell a v->h'.IsCell a v:=λx a v e ⟨o,e1,d⟩=>by
  obtain⟨sl,e2⟩:=u.any e1 (c.cell x a e).1 (hx x a e);exact⟨_,e2,d⟩
 refine⟨c.inj,c.has,λx a e=>?_,λi x v h1 h2 h3=>?_,c.len⟩
 . obtain⟨hn,v,o,e1,d⟩:=c.cell x a e;exact⟨u.free a o e1 hn (hx x a e),v,key x a v e ⟨o,e1,d⟩⟩
 . obtain⟨f,w,a,r,e,z⟩:=c.loc i x v h1 h2 h3;exact⟨f,w,a,r,e,key x a _ e z⟩
noncomputable def asD:R->Option D
 |.dat d=>some d
 |.new l=>some (.lst l)
 |.var _=>none
theorem wA(s:S z g σ As M H)(h:cU z g σ As M H r v)(e:asD r=some d):∃M',S z g σ As M' H/\aq M H M' H/\Rep z.K M' H d v:=by
 cases r with
 |dat d'=>cases e;exact⟨M,s,aq.refl _ _,h⟩
 |var i=>cases e
 |new l=>
  cases e;obtain⟨a,xs,rfl,hm,hA,h0,ha,rr⟩:=h;have hM:∀m∈(M.filter λm=>decide (m≠a)),m∈M:=λm hm=>(hV.mp hm).1
  have na:a∉(M.filter λm=>decide (m≠a)):=λhm=>by
   have:=(hV.mp hm).2;simp at this
  exact⟨_,s.drop h0 hA,aq.less hM,.lst ⟨na,ha⟩ (rr.stay (aq.less hM))⟩
section
def n6(X:Cx)(z:Z)(g:G)(qn:Str)(N':List Str)(iv:Nat)(scope:Scope)(fM:Expr)(l:Lt)(d:D):Prop:=
 ∀(bk:Bk) (σ:Sg),Vq X σ bk->∀(gb:G) (σb:Sg) (Ab Mb:List Addr) (Hb:Hp) (v:V) (A1:List Addr) (Q:VK),S z gb σb Ab Mb Hb->σb[iv]?=some (some v)->Slots z.K Mb Hb g σ A1->jc X qn Mb Hb l v->
  (∀v' H' aA M',S z gb σb aA M' H'->aq Mb Hb M' H'->Rep z.K M' H' d v'->Q v' H')->Jq (X.blk N' scope bk) fM σb Hb Q
theorem Qz{l:Lt}{r':R}{d:D}{v fx qual:Str}{fp vp cp:Pos}{st:Stmt}{f:Addr}{fd:FuncData}(B:aM X.env.scope l.scope)(L:dZ l.params l.scope)(Ff:Hs X.K fx qual st f fd)(hm:X.mg fx=some (.ref f))(je:(fx==("__debug__":Str))=false)
  (hg:∀bk:Bk,Gl (X.blk N' scope bk) fx) {iv:Nat} (hix:N'[iv]?=some v) (hv:∀bk:Bk,gR (X.blk N' scope bk).env.scope v) (hd:(v==("__debug__":Str))=false) (bI:(v==("__classdict__":Str))=false)
  (hcall:∀bk:Bk,wm (X.blk N' scope bk) X z g qn l r' f) (hr:asD r'=some d):n6 X z g qn N' iv scope (.Call (.Name fx fp) [.Name v vp] [] cp) l d:=by
 intro bk σ hbk gb σb Ab Mb Hb v0 A1 Q s0 hσ sl la kQ;refine⟨λσ' H' Q'=>∃As M A0,S z gb σ' As M H'/\σ'[iv]?=some (some v0)/\Slots z.K M H' g σ A0/\jc X qn M H' l v0/\∀v' H2 aA M',S z gb σ' aA M' H2->aq M H' M' H2->Rep z.K M' H2 d v'->Q' v' H2,?_,Ab,Mb,A1,s0,hσ,sl,la,kQ⟩
 intro ah s1 σ' H' Q' I ⟨As,M,A0,S1,hv0,Wn,la0,kQ0⟩;refine oS (eU I (hg bk) hm ?_ je);refine AA (h₀:=X.base) I.ok.mod.Bg Ff.kp (lS ((bC (cg (X:=X.blk N' scope bk) hix (hv bk) hd bI) dR rfl) cp ah s1 σ' H' (λvs H1=>vs=[v0]/\H1=H') I ⟨v0,hv0,rfl,rfl⟩) (λus s2 q1=>?_) λ_ _ z=>z) rfl rfl
 obtain⟨vs,H1,I1,rv,rfl,rfl⟩:=q1;obtain⟨p,c',gK,cl,rfl,np1,nc1,hp1,hc1,zZ,J4⟩:=la0;obtain⟨pins0,I0,f0⟩:=hbk;have C0:kI X.N σ l.scope cl H1 s2.heap:=(yi I0 B L.nl zZ J4).un' I1.base λx a e hb=>(f0 a hb).2.2.2.2.1 x a (zZ x a e).1 rfl
 refine⟨I1.lT,hcall bk I1 S1 hp1 hc1 C0 Wn rv λu v H' s' aA M' I' r1 a b d'=>?_⟩
 obtain⟨M2,s3,gF,R3⟩:=wA a d' hr;exact⟨v,H',I',r1,kQ0 v H' aA M2 s3 (b.trans gF) R3⟩
inductive dY(P:Lt->D->Prop):List Lt->List D->Prop
 |nil:dY P [] []
 |cons {l:Lt}{ls:List Lt}{d:D}{ds:List D}:P l d->dY P ls ds->dY P (l::ls) (d::ds)
theorem dY.get(h:dY P ls ds):∀{i:Nat}{l:Lt},ls[i]?=some l->∃d,ds[i]?=some d/\P l d:=by
 induction h with
 |nil=>intro i l e;cases e
 |cons a _ ih=>intro i l e;cases i with
  |zero=>cases (show some _=some l from e);exact⟨_,rfl,a⟩
  |succ i=>exact ih (i:=i) e
theorem dY.length(h:dY P ls ds):ls.length=ds.length:=by
 induction h with
 |nil=>rfl
 |cons _ _ ih=>exact congrArg (· + 1) ih
theorem wB(hj:j<k)(hN:Names X.N N' scope k)(B:aM X.env.scope scope)(hc:X.calm=true)(hi:X.N[ic]?=some y)(hv:gR X.env.scope y)(hd:(y==("__debug__":Str))=false)(bI:(y==("__classdict__":Str))=false)
  (hx:∀b:Bk,nI (X.blk N' scope b) x (X.N.length+j)) (yj:g.length=X.N.length) (hls:ls.length<1000) (he:dY (n6 X z g qn N' (X.N.length+j) scope fM) ls ds) :
  ∃t,PE X (.ListComp fM [⟨.Name x px,.Name y py,[],0⟩] scope pos) t/\∀σ H M0 H0 Q,LL X z g qn ic M0 H0 ls σ H->Kn z g σ M0 H0 (.new ds) Q->t σ H Q:=by
 refine⟨_,xO (k:=k) (wi:=Mh X.K (Nz ic)) B hc hN (qR (cg hi hv hd bI)) (λb=>⟨iE (hx b).nd (hx b).ix (hx b).lc (hx b).fn,mY,vO⟩) (λ_=>rfl),λσ H M0 H0 Q h kq=>?_⟩
 obtain⟨As,M,a,vs,s,st,e1,hm,hA,h0,ha,la⟩:=h;have hM:∀m∈(M.filter λm=>decide (m≠a)),m∈M:=λm hm=>(hV.mp hm).1
 have na:a∉(M.filter λm=>decide (m≠a)):=λhm=>by
  have:=(hV.mp hm).2;simp at this
 have s1:=s.drop h0 hA;have dB:=st.trans (aq.less (H:=H) hM);have la1:=la.stay (aq.less (H:=H) hM);generalize (M.filter λm=>decide (m≠a))=M1 at na s1 dB la1
 refine⟨.ref a,e1,a,rfl,⟨vs,bX.of ha⟩,λD hD=>?_⟩
 have hl:g.length=σ.length:=s.sl.length;have hlN:σ.length=X.N.length:=hl.symm.trans yj;have Wq:z.H0 D=none:=s1.bR hD;have nA:D∉As:=λh=>s1.fresh hD (s1.sub D h)
 have sb:=(s1.aN (xs:=[]) hD).extend (k:=k) (l:=[]) dA nA Wq az .nil;refine⟨λi m σ' H'=>i+m=ls.length/\∃Ab Mb w,S z (g++(List.replicate k .no++[.own (ds.take i)])) σ' Ab Mb H'/\aq M1 H Mb H'/\w.length=k/\σ'=σ++(w++[some (.ref D)]),⟨ls.length,AU _,_,_,_,sb,aq.aN hD,fI,rfl⟩,?_⟩
 rintro i m σ' H' ⟨ZQ,Ab,Mb,w,s2,aL,hw,rfl⟩;have ha2:=aL _ _ ha na;have la2:=la1.stay aL;have qk:∀w:List (Option V),w.length=k->(σ++(w++[some (V.ref D)]))[g.length+k]?=some (some (V.ref D)):=λw hw=>by rw[hl,d6 (sB _ _),i6,d6 ⋯,hw,BM];rfl
 have ym:∀l,(g++(List.replicate k Slot.no++[Slot.own l]))[g.length+k]?=some (.own l):=λl=>by rw[d6 (sB _ _),i6,d6 (by rw[fI];exact d5 _),fI,BM];rfl
 cases e:ls[i]? with
 |none=>
  have hi':i=ls.length:=by have:=tS.mp e;lia
  refine .inl ⟨⟨vs,bX.of ha2.1,by rw[<- la.length,hi'];exact d5 _⟩,?_⟩
  rw[List.take_of_length_le (by rw[<- he.length,hi'];exact d5 _)]at s2
  obtain⟨b,xs,f1,f2,f3,f4⟩:=s2.sl.at (ym ds);rw[qk w hw]at f1;injection f1 with f1;injection f1 with f1;injection f1 with f1;subst f1;obtain⟨A1,s3,m3,n3⟩:=s2.shrink (λp hp=>(dE.mp (s.iP p hp).1).1) (i:=g.length+k) ⋯ (ym ds) (qk w hw)
  rw[List.take_append_of_le_length ⋯,List.take_of_length_le ⋯]at s3;exact kq _ H' A1 Mb s3 (dB.trans aL) ⟨D,xs,rfl,m3,n3,Wq,f3,f4⟩
 |some l=>
  obtain⟨v,ev,lv⟩:=la2.get e;obtain⟨d,ed,hE⟩:=he.get e;refine .inr ⟨⟨vs,v,bX.of ha2.1,ev⟩,λσ' H'=>∃Ab Mb w,S z (g++(List.replicate k .no++[.own (ds.take (i+1))])) σ' Ab Mb H'/\aq M1 H Mb H'/\w.length=k/\σ'=σ++(w++[some (.ref D)]),λMm Mp hN=>⟨m - 1,by have:=(dE.mp e).1;lia,by have:=(dE.mp e).1;lia,hN⟩,λx' H2 hx' bk hbk=>?_⟩
  obtain⟨rfl,hy⟩:=hx';have:=hy vs (bX.of ha2.1);rw[ev]at this;cases this;have hw2:(w.set j (some v)).length=k:=by rw[i4];exact hw
  have es:(σ++(w++[some (V.ref D)])).set (X.N.length+j) (some v)=σ++(w.set j (some v)++[some (V.ref D)]):=by rw[<- hlN,qS _ _ (sB _ _),i6,AM _ _ ⋯]
  have s3:S z (g++(List.replicate k .no++[.own (ds.take i)])) (σ++(w.set j (some v)++[some (V.ref D)])) Ab Mb H2:=by rw[<- es];exact s2.gj (by rw[<- yj,d6 (sB _ _),i6,dS (by rw[fI];exact hj),y8,fN hj])
  obtain⟨σ1,σ2,A1,A2,c1,c2,c3,c4⟩:=s3.sl.split;obtain⟨rfl,_⟩:=List.append_inj c1 (hl.symm.trans c3.length);unfold sX Cp;dsimp only;rw[fN rfl];show Jq _ fM ((σ++(w++[some (V.ref D)])).set (X.N.length+j) (some v)) H2 _;rw[es];refine hE bk σ hbk _ _ Ab Mb H2 v A1 _ s3 (by rw[<- hlN,d6 (sB _ _),i6,dS ⋯,eQ ⋯]) c3 lv λv' H3 jZ M3 s4 qj R4=>?_
  obtain⟨b,xs,f1,f2,f3,f4⟩:=s4.sl.at (ym (ds.take i));rw[qk _ hw2]at f1;injection f1 with f1;injection f1 with f1;injection f1 with f1;subst f1;have ht:ds.take (i+1)=ds.take i++[d]:=by rw[List.take_add_one,ed];rfl
  obtain⟨s5,vD⟩:=s4.write (l':=ds.take (i+1)) (ym _) (qk _ hw2) (by rw[ht];exact f4.append (.cons R4 .nil))
  have eg:(g++(List.replicate k Slot.no++[Slot.own (ds.take i)])).set (g.length+k) (.own (ds.take (i+1)))=g++(List.replicate k Slot.no++[Slot.own (ds.take (i+1))]):=by rw[qS _ _ (sB _ _),i6,qS _ _ (by rw[fI];exact d5 _),fI,BM];rfl
  rw[eg]at s5;refine⟨xs,f3,?_,jZ,M3,_,s5,(aL.trans qj).trans vD,hw2,rfl⟩;rw[<- f4.length,l5,t9];have:=Nat.min_le_right i ds.length;rw[<- he.length]at this ⊢
  lia
theorem uz(hj:j<k)(hN:Names X.N N' scope k)(B:aM X.env.scope scope)(hc:X.calm=true)(hi:X.N[ic]?=some y)(hv:gR X.env.scope y)(hd:(y==("__debug__":Str))=false)(bI:(y==("__classdict__":Str))=false)
  (hx:∀b:Bk,nI (X.blk N' scope b) x (X.N.length+j)) (hls:ls.length<1000) (he:dY (n6 X z g qn N' (X.N.length+j) scope fM) ls ds) :
  ∃t,PE X (.ListComp fM [⟨.Name x px,.Name y py,[],0⟩] scope pos) t/\∀σ H M0 H0 Q,LL X z g qn ic M0 H0 ls σ H->Kn z g σ M0 H0 (.new ds) Q->t σ H Q:=by
 by_cases yj:g.length=X.N.length
 . exact wB hj hN B hc hi hv hd bI hx yj hls he
 .
  refine⟨λσ H Q=>σ.length≠X.N.length,λah s σ H Q I h=>absurd I.len h,λσ H M0 H0 Q h _ e=>?_⟩
  obtain⟨As,M,a,vs,s,_⟩:=h;exact yj (s.sl.length.trans e)
end
inductive QB(X:Cx):List Stmt->List TS->Prop
 |nil:QB X [] []
 |cons {s:Stmt}{ss:List Stmt}{t:TS}{ts:List TS}:PS X s t->QB X ss ts->QB X (s::ss) (t::ts)
def Kc:List TS->TS->TS
 | [],u=>u
 |t::ts,u=>UW t (Kc ts u)
theorem QB.pss{X:Cx}{ss rest:List Stmt}{ts:List TS}{u:TS}(h:QB X ss ts)(hu:qO X rest u):qO X (ss++rest) (Kc ts u):=by
 induction h with
 |nil=>exact hu
 |cons a _ ih=>exact dM a ih
def lQ(X:Cx)(z:Z)(ss:List Stmt)(g:G)(f:Fl)(g':G):Prop:=
 ∃ts,QB X ss ts/\∀(u:TS) σ As M H (E:Ends),S z g σ As M H->jN z M H { E with nx:=u E} g' f->Kc ts u E σ H
theorem lQ.lift(h:lQ X.kZ z ss g f g'):lQ X z ss g f g':=by
 obtain⟨ts,q,k⟩:=h;refine⟨ts,?_,k⟩;clear k
 induction q with
 |nil=>exact .nil
 |cons a _ ih=>exact .cons (λah s σ H D I hw=>lS (a ah s σ H D (I.wish _) hw) (λ_ _ q=>q.cS) λ_ _ z=>False.elim z) ih
theorem lQ.bk{X:Cx}{z:Z}{ss rest:List Stmt}{g g1 g':G}{f:Fl}(h:lQ X z ss g .nx g1)(h2:dX X z rest g1 f g'):dX X z (ss++rest) g f g':=by obtain⟨t2,q2,k2⟩:=h2;obtain⟨t,q,k⟩:=h;exact⟨_,q.pss q2,λσ As M H E s kE=>k t2 σ As M H E s λσ' aA M' H' s' st=>k2 σ' aA M' H' E s' (kE.trans st)⟩
theorem lQ.end{X:Cx}{z:Z}{ss rest:List Stmt}{g g':G}{f:Fl}(h:lQ X z ss g f g')(hn:f≠.nx):dX X z (ss++rest) g f g':=by
 obtain⟨t,q,k⟩:=h;refine⟨_,q.pss bf,λσ As M H E s kE=>k _ σ As M H E s ?_⟩
 cases f with
 |nx=>exact absurd rfl hn
 |rt r=>exact kE
 |bk=>exact kE
 |ct=>exact kE
theorem lQ.ra{X:Cx}{z:Z}{ss rest:List Stmt}{g g1 g':G}{C:Addr}(h:lQ X z ss g .nx g1)(h2:JC X z rest g1 C g'):JC X z (ss++rest) g C g':=by obtain⟨t2,q2,k2⟩:=h2;obtain⟨t,q,k⟩:=h;exact⟨_,q.pss q2,λσ As M H E s kE=>k t2 σ As M H E s λσ' aA M' H' s' st=>k2 σ' aA M' H' E s' (kE.trans st)⟩
def LsOk(X:Cx)(z:Z)(qn:Str)(ic:Nat)(ls:List Lt)(st:Stmt)(g:G)(f:Fl)(g':G):Prop:=
 ∃t,PS X st t/\∀σ H M0 H0 (E:Ends),LL X z g qn ic M0 H0 ls σ H->jN z M0 H0 E g' f->t E σ H
inductive wC(y:Str):List Stmt->List Lt->Prop
 |nil:wC y [] []
 |cons {l:Lt}{ls:List Lt}{ss:List Stmt}{pn bH aU pos:Pos}:(bH.endLine==aU.line)=true->wC y ss ls->wC y (.Expr (.Call (.Attribute (.Name y pn) "append" bH) [l.ex] [] aU) pos::ss) (l::ls)
section
variable{st:Stmt}
theorem wD(hK:z.K=X.K)(mk:n5 X qn q c)(hi:X.N[ic]?=some y)(hv:gR X.env.scope y)(hd:(y==("__debug__":Str))=false)(bI:(y==("__classdict__":Str))=false):∀{ms ls:List Lt},wC y ss ms->(∀m∈ms,aM X.env.scope m.scope/\dZ m.params m.scope)->ls.length+ms.length<1000->
  LsOk X z qn ic (ls++ms) st g f g'->∃ts,QB X (ss++[st]) ts/\∀(u:TS) σ H M0 H0 (E:Ends),LL X z g qn ic M0 H0 ls σ H->jN z M0 H0 { E with nx:=u E} g' f->Kc ts u E σ H:=by
 induction ss with
 |nil=>intro ms ls ha _ _ ⟨t,q,k⟩;cases ha;rw[l4]at k;exact⟨[t],.cons q .nil,λu σ H M0 H0 E h kE=>k σ H M0 H0 { E with nx:=u E} h kE⟩
 |cons s ss ih=>
  intro ms ls ha hm hl hs;cases ha with
  |@cons m ms _ pn bH aU pos' e ha=>
   obtain⟨B,L⟩:=hm m dA;obtain⟨t1,q1,k1⟩:=wz (z:=z) (g:=g) (ls:=ls) (pos:=pos') (pn:=pn) hK mk B L hi hv hd bI ⋯ e;obtain⟨t2,q2,k2⟩:=ih (ls:=ls++[m]) ha (λm h=>hm m (b0 _ h)) (by simp at hl ⊢;lia) (by rw[AH];exact hs)
   exact⟨t1::t2,.cons q1 q2,λu σ H M0 H0 E h kE=>k1 σ H M0 H0 _ h λH' h'=>k2 u σ H' M0 H0 E h' kE⟩
theorem lC(hK:z.K=X.K)(mk:n5 X qn q c)(hN:X.N.Nodup)(hi:X.N[ic]?=some y)(hx:Loc X.env.scope y)(hf:X.fn y=true\/X.env.scope.names.lookup y=some .local)(hv:gR X.env.scope y)(hd:(y==("__debug__":Str))=false)(bI:(y==("__classdict__":Str))=false)(hg:g[ic]?=some .no)
  {ss:List Stmt} (ha:wC y ss ls) (hm:∀m∈l::ls,aM X.env.scope m.scope/\dZ m.params m.scope) (hl:ls.length<900) (hs:LsOk X z qn ic (l::ls) st g f g'):lQ X z (.Assign [.Name y py] (.List [l.ex] lp) pos::(ss++[st])) g f g':=by
 obtain⟨B,L⟩:=hm l dA;obtain⟨t1,q1,k1⟩:=z8 (z:=z) (g:=g) (py:=py) (lp:=lp) (pos:=pos) hK mk B L hN hi hx hf hg;obtain⟨t2,q2,k2⟩:=wD (ls:=[l]) hK mk hi hv hd bI ha (λm h=>hm m (b0 _ h)) (by simp;lia) hs
 exact⟨t1::t2,.cons q1 q2,λu σ As M H E s kE=>k1 σ As M H _ s λσ' H' h'=>k2 u σ' H' M H E h' kE⟩
theorem En(h1:∃t,PE X QC t/\∀σ H M0 H0 Q,LL X z g qn ic M0 H0 ls σ H->Kn z g σ M0 H0 (.new ds) Q->t σ H Q)(h2:aB X z pF g r2 g2)(p2:pk r2 g2=some d2)(ho:lK X z (compareOp op) (.lst ds) d2 (.dat (.bl b)))(hm:behindInMarks op pF=false)
  (hb:dX X z (if b then body else []) g2 f g'):LsOk X z qn ic ls (.If (.Compare QC [op] [pF] aU) body [] pos) g f g':=by
 obtain⟨t1,q1,k1⟩:=h1;obtain⟨t2,q2,k2⟩:=h2;obtain⟨rr,o,ko⟩:=ho;obtain⟨t3,q3,k3⟩:=hb;have go:∀σ H M0 H0 (Q:Bool->Hp->Prop),LL X z g qn ic M0 H0 ls σ H->(∀H' aA M',S z g2 σ aA M' H'->aq M0 H0 M' H'->Q b H')->t1 σ H λv1 H1=>t2 σ H1 λv2 H2=>rr v1 v2 H2 λv H3=>∃c,v=.bl c/\Q c H3:=λσ H M0 H0 Q h kQ=>
  k1 σ H M0 H0 _ h λv1 H1 aO M1 s1 dB R1=>by
   obtain⟨M1',s1',QD,R1'⟩:=wA s1 R1 rfl;exact k2 σ aO M1' H1 _ s1' λv2 H2 bu M2 s2 aL R2=>ko g2 σ bu M2 H2 v1 v2 _ s2 (.of (R1'.stay aL)) (s2.pk (aq.refl _ _) R2 p2) λv H' aA M' s' st' R'=>⟨b,eW R',kQ H' aA M' s' (((dB.trans QD).trans aL).trans st')⟩
 cases b with
 |true=>exact⟨_,mK (qU o q1 q2 hm) q3 bf,λσ H M0 H0 E h kE=>go σ H M0 H0 _ h λH' aA M' s' st'=>j6 (k3 σ aA M' H' E s' (kE.trans st'))⟩
 |false=>exact⟨_,mK (qU o q1 q2 hm) bf q3,λσ H M0 H0 E h kE=>go σ H M0 H0 _ h λH' aA M' s' st'=>o9 (k3 σ aA M' H' E s' (kE.trans st'))⟩
theorem z9(h1:∃t,PE X QC t/\∀σ H M0 H0 Q,LL X z g qn ic M0 H0 ls σ H->Kn z g σ M0 H0 (.new ds) Q->t σ H Q)(h2:aB X z pF g r2 g2)(p2:pk r2 g2=some d2)(ho:lK X z (compareOp op) (.lst ds) d2 (.dat (.bl b)))(hm:behindInMarks op pF=false) :
  LsOk X z qn ic ls (.Return (some (.Compare QC [op] [pF] aU)) pos) g (.rt (.dat (.bl b))) g2:=by
 obtain⟨t1,q1,k1⟩:=h1;obtain⟨t2,q2,k2⟩:=h2;obtain⟨rr,o,ko⟩:=ho;refine⟨_,qQ (xG o q1 q2 hm),λσ H M0 H0 E h kE=>k1 σ H M0 H0 _ h λv1 H1 aO M1 s1 dB R1=>?_⟩
 obtain⟨M1',s1',QD,R1'⟩:=wA s1 R1 rfl;exact k2 σ aO M1' H1 _ s1' λv2 H2 bu M2 s2 aL R2=>ko g2 σ bu M2 H2 v1 v2 _ s2 (.of (R1'.stay aL)) (s2.pk (aq.refl _ _) R2 p2) λv H' aA M' s' st' R'=>kE v σ aA M' H' s' (((dB.trans QD).trans aL).trans st') R'
end
end Ev
namespace L2
end L2
namespace Ev
open L2
inductive fh(z:Z)(As M:List Addr)(H:Hp):List Addr->List (List D)->Prop
 |nil:fh z As M H [] []
 |cons {p:Addr}{as:List Addr}{xs:List V}{l:List D}{ll:List (List D)}:p∈M->p∉As->z.H0 p=none->H p=some (.lst xs)->aH z.K M H l xs->fh z As M H as ll->fh z As M H (p::as) (l::ll)
section
theorem fh.stay(h:fh z As M H as ll)(st:aq M H M' H')(k:∀p∈as,p∈M'/\H' p=H p):fh z As M' H' as ll:=by
 induction h with
 |nil=>exact .nil
 |cons h1 h2 h3 h4 h5 _ ih=>obtain⟨k1,k2⟩:=k _ dA;exact .cons k1 h2 h3 (k2.trans h4) (h5.stay st) (ih λp hp=>k p (b0 _ hp))
theorem fh.mem(h:fh z As M H as ll):∀p∈as,p∈M/\p∉As/\z.H0 p=none/\∃xs,H p=some (.lst xs):=by
 induction h with
 |nil=>intro p h;cases h
 |cons h1 h2 h3 h4 _ _ ih=>intro p hp;rcases d0.mp hp with rfl |hp;exact⟨h1,h2,h3,_,h4⟩;exact ih p hp
theorem fh.get(h:fh z As M H as ll):∀{i:Nat}{l:List D},ll[i]?=some l->∃p xs,as[i]?=some p/\H p=some (.lst xs)/\aH z.K M H l xs:=by
 induction h with
 |nil=>intro i l e;cases e
 |cons h1 h2 h3 h4 h5 _ ih=>intro i l e;cases i with
  |zero=>cases (show some _=some l from e);exact⟨_,_,rfl,h4,h5⟩
  |succ i=>exact ih (i:=i) e
theorem fh.push(h:fh z As M H as ll)(h1:p∈M)(h2:p∉As)(h3:z.H0 p=none)(h4:H p=some (.lst xs))(h5:aH z.K M H l xs):fh z As M H (as++[p]) (ll++[l]):=by
 induction h with
 |nil=>exact .cons h1 h2 h3 h4 h5 .nil
 |cons a b c d e _ ih=>exact .cons a b c d e ih
theorem fh.write(h:fh z As M H as ll)(nd:as.Nodup)(r:aH z.K M (upd H p (.lst xs')) l' xs')(hp:p∈M):∀{i:Nat},as[i]?=some p->fh z As M (upd H p (.lst xs')) as (ll.set i l'):=by
 induction h with
 |nil=>intro i e;cases e
 |@cons q as xs l ll h1 h2 h3 h4 h5 hr ih=>
  intro i e;obtain⟨nd1,nd2⟩:=fA.mp nd;cases i with
  |zero=>
   cases (show some q=some p from e)
   exact .cons h1 h2 h3 az r (hr.stay (aq.write hp) λx hx=>⟨(hr.mem x hx).1,au (λe=>nd1 (e▸hx))⟩)
  |succ i=>
   have hq:q≠p:=λe'=>nd1 (by rw[e'];exact i8 (show as[i]?=some p from e))
   exact .cons h1 h2 h3 (by rw[au hq];exact h4) (h5.stay (aq.write hp)) (ih nd2 (i:=i) e)
end
def Rows(z:Z)(g:G)(iy:Nat)(M0:List Addr)(H0:Hp)(ll:List (List D))(σ:Sg)(H:Hp):Prop:=
 ∃As M a as,S z g σ As M H/\aq M0 H0 M H/\σ[iy]?=some (some (.ref a))/\a∈M/\a∉As/\z.H0 a=none/\H a=some (.lst (as.map .ref))/\a∉as/\as.Nodup/\fh z As M H as ll
theorem Rows.gj(h:Rows z g iy M0 H0 ll σ H)(e:g[i]?=some .no)(n:i≠iy):Rows z g iy M0 H0 ll (σ.set i v) H:=by obtain⟨As,M,a,as,s,st,e1,h⟩:=h;exact⟨As,M,a,as,s.gj e,st,by rw[eC n];exact e1,h⟩
section
variable{iy ix iw:Nat}
theorem yp(hy:X.N[iy]?=some y)(vy:gR X.env.scope y)(dy:(y==("__debug__":Str))=false)(cy:(y==("__classdict__":Str))=false)(hx:X.N[ix]?=some x)(vx:gR X.env.scope x)(dx:(x==("__debug__":Str))=false)(cx:(x==("__classdict__":Str))=false)
  (hw:X.N[iw]?=some w) (vw:gR X.env.scope w) (dw:(w==("__debug__":Str))=false) (cw:(w==("__classdict__":Str))=false) (hline:(bH.endLine==aU.line)=true) :
  ∃t,PS X (.Expr (.Call (.Attribute (.Subscript (.Name y py) (.Name x px) sp) "append" bH) [.Name w pw] [] aU) ep) t/\∀σ H M0 H0 (E:Ends) (ll:List (List D)) (l:List D) (j:Nat) (b:Int),Rows z g iy M0 H0 ll σ H->σ[ix]?=some (some (.int j))->σ[iw]?=some (some (.int b))->ll[j]?=some l->l.length<1000->
   (∀H',Rows z g iy M0 H0 (ll.set j (l++[.int b])) σ H'->E.nx σ H')->t E σ H:=by
 refine⟨_,lU (tE u7 AS AT iF (Mk qZ (cg hy vy dy cy) (cg hx vx dx cx) (λ_ _=>rfl)) (bC (cg hw vw dw cw) dR rfl) rfl rfl hline rfl rfl) rfl,λσ H M0 H0 E ll l j b h ex ew el hl kE=>?_⟩
 obtain⟨As,M,a,as,s,st,e1,hm,hA,h0,ha,na,nd,rl⟩:=h;obtain⟨p,xs,ep,hp,rp⟩:=rl.get el;obtain⟨q1,q2,q3,_⟩:=rl.mem p (i8 ep);have hat:fQ (as.map V.ref) (j:Int)=some (.ref p):=by
  have hj:j<as.length:=(dE.mp ep).1;unfold L2.fQ L2.oZ;rw[fN ⋯,fN (by rw[eR];lia)]
  simp only[tJ];show (as.map V.ref)[j]?=some (.ref p);rw[oP,ep];rfl
 refine⟨.ref a,e1,.int j,ex,a,as.map .ref,j,.ref p,rfl,rfl,bX.of ha,hat,.inl ⟨rfl,xs,bX.of hp⟩,.int b,ew,p,xs,.int b,rfl,rfl,hp,?_,kE _ ?_⟩
 . rw[<- rp.length,l5];lia
 .
  have hap:a≠p:=λe=>na (e▸i8 ep)
  refine⟨As,M,a,as,s.wj q1 q2 q3 hp,st.trans (aq.write q1),e1,hm,hA,h0,by rw[au hap];exact ha,na,nd,?_⟩
  exact rl.write nd ((rp.stay (aq.write q1)).append (.cons (.int b) .nil)) q1 ep
end
noncomputable def uA(ll:List (List D)):D->Option (List (List D))
 |.tup [.int a,.int b]=>if 0<=a/\0<=b then match ll[a.toNat]? with
   |some l1=>if l1.length<1000 then match (ll.set a.toNat (l1++[.int b]))[b.toNat]? with
     |some l2=>if l2.length<1000 then some ((ll.set a.toNat (l1++[.int b])).set b.toNat (l2++[.int a]))else none
     |none=>none
    else none
   |none=>none
  else none
 |_=>none
noncomputable def g5:List D->List (List D)->Option (List (List D))
 | [],ll=>some ll
 |d::l,ll=>match uA ll d with |some Mx=>g5 l Mx |none=>none
theorem Eo(h:uA ll d=some Mx):∃(a b:Nat) (l1 l2:List D),d=.tup [.int a,.int b]/\ll[a]?=some l1/\l1.length<1000/\(ll.set a (l1++[.int b]))[b]?=some l2/\l2.length<1000/\Mx=(ll.set a (l1++[.int b])).set b (l2++[.int a]):=by
 unfold uA at h;split at h
 .
  rename_i a b;split at h
  .
   rename_i h0;obtain⟨a,rfl⟩:∃n:Nat,a=n:=⟨a.toNat,by lia⟩
   obtain⟨b,rfl⟩:∃n:Nat,b=n:=⟨b.toNat,by lia⟩
   simp only[tJ]at h;split at h
   .
    rename_i l1 e1;split at h
    .
     rename_i h1;split at h
     .
      rename_i l2 e2;split at h
      . rename_i h2;cases h;exact⟨a,b,l1,l2,rfl,e1,h1,e2,h2,rfl⟩
      . cases h
     . cases h
    . cases h
   . cases h
  . cases h
 . cases h
theorem S.yq:∀(ps:List Addr) {M:List Addr},S z g σ As M H->(∀p∈ps,p∉As/\z.H0 p=none)->∃M',S z g σ As M' H/\(∀m∈M',m∈M)/\∀p∈ps,p∉M'
 | [],M,s,_=>⟨M,s,λ_ h=>h,λ_ h=>nomatch h⟩
 |p::ps,M,s,h=>by
  obtain⟨h1,h2⟩:=h p dA;obtain⟨M',s',k1,k2⟩:=S.yq ps (s.drop h2 h1) λq hq=>h q (b0 _ hq)
  refine⟨M',s',λm hm=>(hV.mp (k1 m hm)).1,λq hq=>?_⟩
  rcases d0.mp hq with rfl |hq
  . intro hm;have:=(hV.mp (k1 _ hm)).2;simp at this
  . exact k2 q hq
theorem fh.reps(h:fh z As M H as ll)(hM:∀m∈M',m∈M)(n:∀p∈as,p∉M'):aH z.K M' H (ll.map .lst) (as.map .ref):=by
 induction h with
 |nil=>exact .nil
 |cons _ _ _ h4 h5 _ ih=>exact .cons (.lst ⟨n _ dA,h4⟩ (h5.stay (aq.less hM))) (ih λp hp=>n p (b0 _ hp))
theorem Rows.trans(st:aq M0 H0 M1 H1)(h:Rows z g iy M1 H1 ll σ H):Rows z g iy M0 H0 ll σ H:=by obtain⟨As,M,a,as,s,aL,r⟩:=h;exact⟨As,M,a,as,s,st.trans aL,r⟩
section
variable{iy ia ib it:Nat}
theorem Ep(hp:PassesOwn (model X.prog X.w) X.A X.env X.xe)(hc:X.calm=true)(hK:z.K=X.K)(hy:X.N[iy]?=some y)(vy:gR X.env.scope y)(dy:(y==("__debug__":Str))=false)(cy:(y==("__classdict__":Str))=false)
  (na:nI X a ia) (va:gR X.env.scope a) (da:(a==("__debug__":Str))=false) (ca:(a==("__classdict__":Str))=false) (nb:nI X b ib) (vb:gR X.env.scope b) (db:(b==("__debug__":Str))=false) (cb:(b==("__classdict__":Str))=false)
  (ht:X.N[it]?=some tn) (vt:gR X.env.scope tn) (dt:(tn==("__debug__":Str))=false) (ct:(tn==("__classdict__":Str))=false) (hgt:g[it]?=some (.dat (.tup ak)))
  (hga:g[ia]?=some .no) (Yx:g[ib]?=some .no) (hay:ia≠iy) (hby:ib≠iy) (hab:ia≠ib) (l1:(My.endLine==Mz.line)=true) (l2:(MF.endLine==MJ.line)=true)
  {ll0:List (List D)} (hF:g5 ak ll0=some HB) :
  ∃t,PS X (.For (.Tuple [.Name a pa,.Name b pb] tk iA) (.Name tn tp) [.Expr (.Call (.Attribute (.Subscript (.Name y y1) (.Name a a1) T9) "append" My) [.Name b b1] [] Mz) Ua,.Expr (.Call (.Attribute (.Subscript (.Name y y2) (.Name b b2) Ub) "append" MF) [.Name a a2] [] MJ) Uc] [] Er) t/\
   ∀M0 H0 σ H (E:Ends),Rows z g iy M0 H0 ll0 σ H->(∀σ' H',Rows z g iy M0 H0 HB σ' H'->E.nx σ' H')->t E σ H:=by
 obtain⟨t1,q1,k1⟩:=yp (z:=z) (g:=g) (py:=y1) (px:=a1) (pw:=b1) (sp:=T9) (ep:=Ua) hy vy dy cy na.ix va da ca nb.ix vb db cb l1;obtain⟨t2,q2,k2⟩:=yp (z:=z) (g:=g) (py:=y2) (px:=b2) (pw:=a2) (sp:=Ub) (ep:=Uc) hy vy dy cy nb.ix vb db cb na.ix va da ca l2;refine⟨_,BW hp hc (BV (cg ht vt dt ct)) (BJ (n:=2) hc (mL (iE na.nd na.ix na.lc na.fn) (mL (iE nb.nd nb.ix nb.lc nb.fn) xE rfl) rfl) rfl rfl) (dM q1 (xD q2)) (λ_=>rfl),λM0 H0 σ H E h kE=>?_⟩
 obtain⟨As,M,ay,as,s,st,h⟩:=h;obtain⟨v,ev,rv⟩:=s.sl.xQ hgt;cases rv with
 |@tup _ at' xs ha rr=>
  refine⟨.ref at',ev,at',rfl,⟨xs,hK▸ha.sq⟩,?_⟩;refine⟨λi m σ' H'=>i+m=ak.length/\∃ll,Rows z g iy M H ll σ' H'/\g5 (ak.drop i) ll=some HB,⟨ak.length,AU _,ll0,⟨As,M,ay,as,s,aq.refl _ _,h⟩,hF⟩,?_⟩
  rintro i m σ' H' ⟨ZQ,ll,hr,hf⟩;obtain⟨bu,M2,ay2,as2,s2,aL,h2⟩:=id hr;have ha2:TupAt z.K M2 H' at' xs:=by
   rcases ha with ⟨n,hq⟩ |hq
   . exact .inl (aL.rd n hq)
   . exact .inr hq
  have Hv:=rr.stay aL;cases e:ak[i]? with
  |none=>
   have hi:i=ak.length:=by have:=tS.mp e;lia
   subst hi;rw[List.drop_length]at hf;cases hf;exact .inl ⟨⟨xs,hK▸ha2.sq,by rw[<- rr.length];exact d5 _⟩,kE σ' H' (hr.trans st)⟩
  |some d=>
   rw[drop_cons e]at hf;have hi:i<ak.length:=(dE.mp e).1;obtain⟨xd,e1,e2⟩:=Hv.get e;cases hd:uA ll d with
   |none=>
    have hf:(match uA ll d with |some Mx=>g5 (ak.drop (i+1)) Mx |none=>none)=some HB:=hf
    rw[hd]at hf;cases hf
   |some Mx=>
    have hf:(match uA ll d with |some Mx=>g5 (ak.drop (i+1)) Mx |none=>none)=some HB:=hf
    rw[hd]at hf;obtain⟨Ud,Ue,r1,r2,rfl,g1,g2,g3,g4,rfl⟩:=Eo hd;cases e2 with
    |@tup _ ad ys had Wr=>
     cases Wr with
     |cons ra Wr=>cases Wr with
      |cons rb Wr=>
       cases Wr;cases ra;cases rb;refine .inr ⟨⟨xs,.ref ad,hK▸ha2.sq,e1⟩,λMm Mp=>∃ll,Rows z g iy M H ll Mm Mp/\g5 (ak.drop (i+1)) ll=some HB,λMm Mp hN=>⟨m - 1,by lia,by lia,hN⟩,λx H2 hx=>?_⟩
       obtain⟨rfl,hy'⟩:=hx;have:=hy' xs (hK▸ha2.sq);rw[e1]at this;cases this;refine⟨ad,_,rfl,hK▸had.sq,rfl,_,_,rfl,_,_,rfl,rfl,?_⟩;have aJ:σ'.length=g.length:=s2.sl.length.symm;have ila:ia<σ'.length:=by rw[aJ];exact (dE.mp hga).1
       have ilb:ib<σ'.length:=by rw[aJ];exact (dE.mp Yx).1
       have hr2:=(hr.gj (v:=some (.int Ud)) hga hay).gj (v:=some (.int Ue)) Yx hby
       have va':((σ'.set ia (some (V.int Ud))).set ib (some (V.int Ue)))[ia]?=some (some (.int Ud)):=by rw[eC (nN hab),eQ ila]
       have vb':((σ'.set ia (some (V.int Ud))).set ib (some (V.int Ue)))[ib]?=some (some (.int Ue)):=by rw[eQ (by rw[i4];exact ilb)]
       exact k1 _ _ M H _ ll r1 Ud Ue hr2 va' vb' g1 g2 λH3 hr3=>k2 _ _ M H _ _ r2 Ue Ud hr3 vb' va' g3 g4 λH4 hr4=>⟨_,hr4,hf⟩
end
section
theorem S.Ws(s:S z g σ As M H)(τ:Sg):S z (g++List.replicate τ.length .no) (σ++τ) As M H:=by
 have hl:=s.sl.length;have q:=s.sl.append (Slots.Wk (K:=z.K) (M:=M) (H:=H) τ);rw[l4]at q;refine⟨q,s.nd,s.sub,λi b l e1 e2=>?_,s.live,s.keep,s.gW,s.m0,s.bm,λp hp=>?_,s.tab,s.tm,s.tt⟩
 .
  rcases xI i g.length with hi |hi
  . rw[dS hi]at e1;rw[dS ⋯]at e2;exact s.own i b l e1 e2
  . rw[d6 hi]at e1;have:=i8 e1;rw[t7]at this;cases this.2
 . obtain⟨q1,l',q2⟩:=s.iP p hp;exact⟨by rw[dS (dE.mp q1).1];exact q1,l',by rw[dS (dE.mp q2).1];exact q2⟩
theorem Slots.Wt{K:Frag}:∀{n:Nat}{τ:Sg}{A:List Addr},Slots K M H (List.replicate n .no) τ A->A=[]
 | 0,_,_,q=>by cases q;rfl
 |n+1,_,_,q=>by
  rw[l9]at q;cases q with
  |no q=>exact Slots.Wt q
theorem S.Wu{τ:Sg}{n:Nat}(s:S z (g++List.replicate n .no) (σ++τ) As M H)(hl:g.length=σ.length)(hz:∀p∈z.lent,p.1<σ.length):S z g σ As M H:=by
 obtain⟨σ1,σ2,A1,A2,h1,h2,h3,h4⟩:=s.sl.split;obtain⟨rfl,rfl⟩:=List.append_inj h1 (hl.symm.trans h3.length);have:=Slots.Wt h4;subst this;rw[l4]at h2;subst h2;refine⟨h3,s.nd,s.sub,λi b l e1 e2=>?_,s.live,s.keep,s.gW,s.m0,s.bm,λp hp=>?_,s.tab,s.tm,s.tt⟩
 . have hi:=(dE.mp e1).1;exact s.own i b l (by rw[dS hi];exact e1) (by rw[dS ⋯];exact e2)
 . obtain⟨c1,l',c2⟩:=s.iP p hp;have xV:=hz p hp;rw[dS xV]at c1;rw[dS ⋯]at c2;exact⟨c1,l',c2⟩
end
section
variable{iy im:Nat}
theorem Aa(hj:j<k)(hN:Names X.N N' scope k)(B:aM X.env.scope scope)(hc:X.calm=true)(hx:∀b:Bk,nI (X.blk N' scope b) x (X.N.length+j))(hgr:Gl X "range")(hmr:X.mg "range"=none)
  (yj:g.length=X.N.length) (hm:X.N[im]?=some mn) (vm:gR X.env.scope mn) (dm:(mn==("__debug__":Str))=false) (cm:(mn==("__classdict__":Str))=false) (hgm:g[im]?=some (.dat (.int m))) (hm1:m<=1000)
  (Iq:X.N.Nodup) (hy:X.N[iy]?=some y) (hl:X.env.scope.names.lookup y=some .local) (Yy:g[iy]?=some .no)
  (hsw:swapsWith (.ListComp (.List [] lp) [⟨.Name x px,.Call (.Name "range" rp) [.Name mn mp] [] Ug,[],0⟩] scope Es) (some (.Name y py)) ap.line X.env=pure true) :
  ∃t,PS X (.Assign [.Name y py] (.ListComp (.List [] lp) [⟨.Name x px,.Call (.Name "range" rp) [.Name mn mp] [] Ug,[],0⟩] scope Es) ap) t/\∀σ As M H (E:Ends),S z g σ As M H->(∀σ' H',Rows z g iy M H (List.replicate m []) σ' H'->E.nx σ' H')->t E σ H:=by
 refine⟨_,xP (k:=k) B hc hN (pU hgr hmr (bC (cg hm vm dm cm) dR rfl)) (λb=>⟨iE (hx b).nd (hx b).ix (hx b).lc (hx b).fn,mY,vF dR⟩) Iq hy hl hsw (λ_=>rfl),λσ As M H E s kE=>?_⟩
 obtain⟨v,ev,rv⟩:=s.sl.xQ hgm;cases rv;refine⟨.int m,ev,(m:Int),rfl,by lia,by lia,λD hD=>?_⟩
 have aJ:g.length=σ.length:=s.sl.length;have Wq:z.H0 D=none:=s.bR hD;have s1:=s.aN (xs:=[]) hD;rw[tJ];refine⟨λi n σ' H'=>i+n=m/\∃Mb as w,S z (g++List.replicate (k+1) .no) σ' As Mb H'/\aq M H Mb H'/\w.length=k/\σ'=σ++(w++[some (.ref D)])/\D∈Mb/\H' D=some (.lst (as.map .ref))/\D∉as/\as.Nodup/\as.length=i/\fh z As Mb H' as (List.replicate i []),⟨m,AU _,D::M,[],List.replicate k none,?_,aq.aN hD,fI,rfl,dA,az,(λh=>nomatch h),oI,rfl,.nil⟩,?_⟩
 . have:=s1.Ws (List.replicate k none++[some (.ref D)]);rw[gL,fI]at this;exact this
 .
  rintro i n σ' H' ⟨hin,Mb,as,w,s2,aL,hw,rfl,Yz,hDH,hDn,nd,hal,rl⟩;have nDA:D∉As:=λh=>s.fresh hD (s.sub D h)
  by_cases hi:i<m
  .
   refine .inr ⟨hi,λσ' H'=>∃Mb as w,S z (g++List.replicate (k+1) .no) σ' As Mb H'/\aq M H Mb H'/\w.length=k/\σ'=σ++(w++[some (.ref D)])/\D∈Mb/\H' D=some (.lst (as.map .ref))/\D∉as/\as.Nodup/\as.length=i+1/\fh z As Mb H' as (List.replicate (i+1) []),λMm Mp hN=>⟨n - 1,by lia,by lia,hN⟩,λx' H2 hx' bk _=>?_⟩
   obtain⟨rfl,rfl⟩:=hx';have es:(σ++(w++[some (V.ref D)])).set (X.N.length+j) (some (.int (0+(i:Int))))=σ++(w.set j (some (.int (0+(i:Int))))++[some (V.ref D)]):=by rw[<- yj,aJ,qS _ _ (sB _ _),i6,AM _ _ ⋯]
   have s3:S z (g++List.replicate (k+1) .no) (σ++(w.set j (some (.int (0+(i:Int))))++[some (V.ref D)])) As Mb H2:=by rw[<- es];exact s2.gj (by rw[<- yj,d6 (sB _ _),i6,y8,fN ⋯])
   unfold sX Cp;dsimp only;rw[fN rfl];show Cu D (Vg _) ((σ++(w++[some (V.ref D)])).set (X.N.length+j) (some (.int (0+(i:Int))))) H2 _;rw[es];refine⟨wE _,λp hp=>?_⟩
   have pD:p≠D:=λe=>by rw[e,hDH]at hp;cases hp
   have pas:∀q∈as,q≠p:=λq hq e=>by
    obtain⟨_,_,_,xs,hx⟩:=rl.mem q hq;rw[e,hp]at hx;cases hx
   have hD1:upd H2 p (.lst []) D=some (.lst (as.map .ref)):=by rw[au (nN pD)];exact hDH
   have s4:=s3.aN (xs:=[]) hp;have s5:=s4.wj (a:=D) (xs':=as.map .ref++[.ref p]) (b0 _ Yz) nDA Wq hD1;have gF:aq Mb H2 (p::Mb) (upd H2 p (.lst [])):=aq.aN hp;have qj:aq (p::Mb) (upd H2 p (.lst [])) (p::Mb) (upd (upd H2 p (.lst [])) D (.lst (as.map .ref++[.ref p]))):=aq.write (b0 _ Yz);refine⟨as.map .ref,hD1,?_,p::Mb,as++[p],_,s5,(aL.trans gF).trans qj,by rw[i4];exact hw,rfl,b0 _ Yz,?_,?_,?_,?_,?_⟩
   . rw[eR,hal,l5];lia
   . rw[az,t6];rfl
   .
    intro h;rcases o0.mp h with h |h
    . exact hDn h
    . exact pD (gN.mp h).symm
   .
    refine vS.mpr ⟨nd,fA.mpr ⟨by simp,oI⟩,λq hq r hr e=>?_⟩
    rw[gN.mp hr]at e;exact pas q hq e
   . rw[gL,hal];rfl
   .
    have r1:=rl.stay (gF.trans qj) λq hq=>⟨b0 _ (rl.mem q hq).1,by rw[au (show q≠D from λe=>hDn (by rw[<- e];exact hq)),au (pas q hq)]⟩
    rw[show List.replicate (i+1) ([]:List Ev.D)=List.replicate i []++[[]]from List.replicate_succ']
    exact r1.push dA (λh=>s2.fresh hp (s2.sub p h)) (s2.bR hp) (by rw[au pD];exact az) .nil
  .
   have hi':i=m:=by lia
   subst hi';refine .inl ⟨d5 _,?_⟩;have s3:=s2.Wu aJ λp hp=>(dE.mp (s.iP p hp).1).1
   have hly:iy<σ.length:=by rw[<- aJ];exact (dE.mp Yy).1
   exact kE _ _ ⟨As,Mb,D,as,s3.gj Yy,aL,eQ hly,Yz,nDA,Wq,hDH,hDn,nd,rl⟩
end
section
variable{iy im ia ib it:Nat}
theorem wF(hp:PassesOwn (model X.prog X.w) X.A X.env X.xe)(hK:z.K=X.K)(hj:j<k)(hN:Names X.N N' scope k)(B:aM X.env.scope scope)(hc:X.calm=true)(hx:∀b:Bk,nI (X.blk N' scope b) x (X.N.length+j))(hgr:Gl X "range")(hmr:X.mg "range"=none)
  (hm:X.N[im]?=some mn) (vm:gR X.env.scope mn) (dm:(mn==("__debug__":Str))=false) (cm:(mn==("__classdict__":Str))=false) (hgm:g[im]?=some (.dat (.int m))) (hm1:m<=1000)
  (Iq:X.N.Nodup) (hy:X.N[iy]?=some y) (hl:X.env.scope.names.lookup y=some .local) (dy:(y==("__debug__":Str))=false) (cy:(y==("__classdict__":Str))=false) (Yy:g[iy]?=some .no)
  (hsw:swapsWith (.ListComp (.List [] lp) [⟨.Name x px,.Call (.Name "range" rp) [.Name mn mp] [] Ug,[],0⟩] scope Es) (some (.Name y py)) ap.line X.env=pure true)
  (na:nI X a ia) (va:gR X.env.scope a) (da:(a==("__debug__":Str))=false) (ca:(a==("__classdict__":Str))=false) (nb:nI X b ib) (vb:gR X.env.scope b) (db:(b==("__debug__":Str))=false) (cb:(b==("__classdict__":Str))=false)
  (ht:X.N[it]?=some tn) (vt:gR X.env.scope tn) (dt:(tn==("__debug__":Str))=false) (ct:(tn==("__classdict__":Str))=false) (hgt:g[it]?=some (.dat (.tup ak)))
  (hga:g[ia]?=some .no) (Yx:g[ib]?=some .no) (hay:ia≠iy) (hby:ib≠iy) (hab:ia≠ib) (l1:(My.endLine==Mz.line)=true) (l2:(MF.endLine==MJ.line)=true) (hF:g5 ak (List.replicate m [])=some HB) :
  lQ X z [.Assign [.Name y py] (.ListComp (.List [] lp) [⟨.Name x px,.Call (.Name "range" rp) [.Name mn mp] [] Ug,[],0⟩] scope Es) ap,.For (.Tuple [.Name a pa,.Name b pb] tk iA) (.Name tn tp) [.Expr (.Call (.Attribute (.Subscript (.Name y y1) (.Name a a1) T9) "append" My) [.Name b b1] [] Mz) Ua,.Expr (.Call (.Attribute (.Subscript (.Name y y2) (.Name b b2) Ub) "append" MF) [.Name a a2] [] MJ) Uc] [] Er,.Return (some (.Name y yr)) rpos] g (.rt (.dat (.lst (HB.map .lst)))) g:=by
 have vy:gR X.env.scope y:=.inl hl;by_cases yj:g.length=X.N.length
 .
  obtain⟨t1,q1,k1⟩:=Aa (z:=z) hj hN B hc hx hgr hmr yj hm vm dm cm hgm hm1 Iq hy hl Yy hsw;have q3:PS X (.Return (some (.Name y yr)) rpos) _:=qQ (cg hy vy dy cy);have fin:∀M H (E:Ends) σ' H',jN z M H E g (.rt (.dat (.lst (HB.map .lst))))->Rows z g iy M H HB σ' H'->Nz iy σ' H' E.rt:=λM H E σ' H' kE h=>by
   obtain⟨As,M2,ay,as,s,st,e1,hm,hA,h0,ha,nay,nd,rl⟩:=h;obtain⟨M3,s3,k3,k4⟩:=S.yq (ay::as) s λp hp=>by
    rcases d0.mp hp with rfl |hp
    . exact⟨hA,h0⟩
    . exact⟨(rl.mem p hp).2.1,(rl.mem p hp).2.2.1⟩
   exact⟨.ref ay,e1,kE _ σ' As M3 H' s3 (st.trans (aq.less k3)) (.lst ⟨k4 _ dA,ha⟩ (rl.reps k3 λp hp=>k4 p (b0 _ hp)))⟩
  have mid:∃t,PS X (.For (.Tuple [.Name a pa,.Name b pb] tk iA) (.Name tn tp) [.Expr (.Call (.Attribute (.Subscript (.Name y y1) (.Name a a1) T9) "append" My) [.Name b b1] [] Mz) Ua,.Expr (.Call (.Attribute (.Subscript (.Name y y2) (.Name b b2) Ub) "append" MF) [.Name a a2] [] MJ) Uc] [] Er) t/\
   ∀M0 H0 σ H (E:Ends),Rows z g iy M0 H0 (List.replicate m []) σ H->(∀σ' H',Rows z g iy M0 H0 HB σ' H'->E.nx σ' H')->t E σ H:=Ep hp hc hK hy vy dy cy na va da ca nb vb db cb ht vt dt ct hgt hga Yx hay hby hab l1 l2 hF
  obtain⟨t2,q2,k2⟩:=mid;refine⟨[t1,t2,_],.cons q1 (.cons q2 (.cons q3 .nil)),λu σ As M H E s kE=>?_⟩
  exact k1 σ As M H _ s λσ' H' h'=>k2 M H σ' H' _ h' λσ2 H2 h2=>fin M H _ σ2 H2 kE h2
 .
  have no:∀st:Stmt,PS X st (λ_ σ _=>σ.length≠X.N.length):=λst ah s σ H D I h=>absurd I.len h
  exact⟨[_,_,_],.cons (no _) (.cons (no _) (.cons (no _) .nil)),λu σ As M H E s kE=>λe=>yj (s.sl.length.trans e)⟩
end
end Ev
namespace HT
open PySem PyProof.Rows
end HT
namespace Ev
open L2
inductive Bl where
 |len |list |tuple |max |min |str |all |sorted |sum
 deriving DecidableEq
set_option genInjectivity false in
inductive Ex where
 |val (d:D) |slot (i:Nat)
 |bin (op:Operator) (a b:Ex) |cmp (op:CmpOp) (a b:Ex) |chain (a:Ex) (ops:List CmpOp) (l:List Ex)
 |neg (a:Ex) |not (a:Ex) |and (l:List Ex) |or (l:List Ex) |ite (c a b:Ex)
 |tup (l:List Ex) |lst (l:List Ex)
 |ix (a b:Ex) |slice (a:Ex) (lo hi:Option Ex)
 |call (f:Nat) (l:List Ex) |blt (b:Bl) (l:List Ex) |mh (a:Ex) (n:String) |pG (a:Ex) (ns:List String)
 |comp (n k:Nat) (T:Tg) (it:Ex) (c:Option Ex) (e:Ex)
 |cC (a:Ex) |fF (a b:Ex) |gq (a:Ex)
 |zip (a b:Ex) |eX (a:Ex)
 |rev (a:Ex) |emp |stk |peek (e:Ex)
 |iU (f ir:Nat) (ca:List Addr) (e:Ex) |lR (a:Ex) (l:List (Addr×Bool)) |refs (f ir:Nat) (ca:List Addr) (es:List Ex)
 |append (i:Nat) (e:Ex) |extend (i:Nat) (e:Ex) |gu (i:Nat) (e:Ex)
set_option genInjectivity false in
inductive Sm where
 |ret (e:Ex) |expr (e:Ex) |set (i:Nat) (e:Ex) |setC (i:Nat) (e:Ex) |tgt (T:Tg) (e:Ex) |item (i:Nat) (j e:Ex)
 |par (i j:Nat) (a b:Ex)
 |ite (c:Ex) (a b:List Sm) |loop (T:Tg) (it:Ex) (b:List Sm) |while (c:Ex) (b:List Sm) |raise (ci:Nat) (e:Ex) |calls (ic:Nat) (x:Ex) (op:CmpOp) (rhs:Ex) (ret:Bool) (b:List Sm) |rows (im it iy ia ib:Nat) |stuck
structure Fx where
 np:Nat
 n:Nat
 body:List Sm
def Tg.kJ:Tg->Bool
 |.tp _=>true
 |.nm _=>false
noncomputable def Et(i j:Int):Bool:=(decide (-(2 ^ 64)<i)&&decide (i<2 ^ 64))||(decide (-(2 ^ 64)<j)&&decide (j<2 ^ 64))
def lim:Nat:=16777216
noncomputable def kK{α:Type}(f:Int->Int->Option α)(a b:D):Option α:=match a with
 |.int i=>(match b with |.int j=>f i j |_=>none)
 |_=>none
noncomputable def Kd(a b:D):Option R:=match a with
 |.int i=>(match b with |.int j=>some (.dat (.int (i+j))) |_=>none)
 |.lst l=>(match b with |.lst m=>if l.length+m.length<=lim then some (.new (l++m))else none |_=>none)
 |.tup l=>(match b with |.tup m=>if l.length+m.length<=lim then some (.dat (.tup (l++m)))else none |_=>none)
 |_=>none
def Eu(a:D)(k:Int):Option R:=match a with
 |.int i=>if Et i k=true then some (.dat (.int (i * k)))else none
 |.lst l=>if -(2 ^ 63)<=k/\k<2 ^ 63/\l.length * k.toNat<=lim then some (.new (List.replicate k.toNat l).flatten)else none
 |.tup l=>if 1<=k/\k<2 ^ 63/\l.length * k.toNat<=lim then some (.dat (.tup (List.replicate k.toNat l).flatten))else none
 |_=>none
def mj(op:Operator)(a b:D):Option R:=match op with
 |.Add=>Kd a b
 |.Sub=>kK (λi j=>some (.dat (.int (i - j)))) a b
 |.Mult=>(match b with |.int k=>Eu a k |_=>none)
 |.FloorDiv=>kK (λi j=>if 0<j/\j<1073741824 then some (.dat (.int (i / j)))else none) a b
 |.Mod=>kK (λi j=>if 0<j then some (.dat (.int (i % j)))else none) a b
 |.Pow=>kK (λi j=>if 0<=j/\j<=1000/\i.natAbs<2 ^ 64 then some (.dat (.int (i ^ j.toNat)))else none) a b
 |_=>none
def gI(d1 d2:D):Bool:=jz d1&&jz d2&&decide (dep d1<=190)
def Ke(d1:D)(l:List D):Bool:=jz d1&&lN l&&decide (deps l<=190)
def ltF(a b:D):Option Bool:=match a with
 |.int i=>(match b with |.int j=>some (decide (i<j)) |_=>none)
 |.tup l=>(match b with |.tup m=>(match bL l with |some ns=>(match bL m with |some ms=>some (HT.lexLt ns ms) |none=>none) |none=>none) |_=>none)
 |_=>none
def fz(op:CmpOp)(d1 d2:D):Option Bool:=match op with
 |.Eq=>if gI d1 d2=true then some (cM d1 d2)else none
 |.NotEq=>if gI d1 d2=true then some (!cM d1 d2)else none
 |.Lt=>ltF d1 d2
 |.LtE=>kK (λi j=>some (decide (i<=j))) d1 d2
 |.Gt=>kK (λi j=>some (decide (i > j))) d1 d2
 |.GtE=>kK (λi j=>some (decide (i ≥ j))) d1 d2
 |.In=>(match dF d2 with |some l=>if Ke d1 l=true then some (l.any λd=>cM d d1)else none |none=>none)
 |_=>none
def HD:D->D->Option D
 |.lst l,.int i=>fQ l i
 |.fix l,.int i=>fQ l i
 |.tup l,.int i=>fQ l i
 |_,_=>none
def QF(b:Bl)(d:D):Option R:=match b with
 |.len=>(match VD d with |some n=>some (.dat (.int n)) |none=>none)
 |.list=>(match dF d with |some l=>some (.new l) |none=>none)
 |.tuple=>(match dF d with |some l=>some (.dat (.tup l)) |none=>none)
 |.all=>(match d with |.lst l=>(match tN l with |some bs=>some (.dat (.bl (bs.all id))) |none=>none) |_=>none)
 |.sorted=>(match dF d with |some l=>(match bL l with |some ns=>if ns.length<64 then some (.new ((bw ns).map .int))else none |none=>match nY l with |some dQ=>if dQ.length<64 then some (.new ((bM dO dQ).map λns=>.tup (ns.map .int)))else none |none=>none) |none=>none)
 |_=>none
def bl2(b:Bl)(d e:D):Option R:=match b with
 |.max=>kK (λi j=>some (.dat (.int (if j > i then j else i)))) d e
 |.min=>kK (λi j=>some (.dat (.int (if j<i then j else i)))) d e
 |_=>none
def lD(b:Bl)(ds:List D):Option R:=match ds with
 | [d]=>QF b d
 | [d,e]=>bl2 b d e
 |_=>none
noncomputable def eL(t n:String):Bool:=t==n||(t == "bool" && n == "int")
structure Rn where
 e:List Nat->Nat->Ex->G->Option (R×G)
 t:List Nat->Nat->Ex->G->Option (Bool×G)
 b:List Nat->Nat->List Sm->G->Option (Fl×G)
 x:List Nat->Nat->Ex->G->Option (Nat×G)
 xt:List Nat->Nat->Ex->G->Option (Nat×G)
 xb:List Nat->Nat->List Sm->G->Option (Nat×G)
noncomputable def toD(bor:List Nat):R->G->Option (D×G)
 |.dat d,g=>some (d,g)
 |.new l,g=>some (.lst l,g)
 |.var i,g=>if i∈bor then none else match g[i]? with |some (.own l)=>some (.lst l,g.set i (.dat (.lst l))) |_=>none
noncomputable def norm:R->R
 |.new l=>.dat (.lst l)
 |.dat d=>.dat d
 |.var i=>.var i
section
variable(rn:Rn)(bor:List Nat)(k:Nat)
noncomputable def gP(e:Ex)(g:G):Option (D×G):=match rn.e bor k e g with
 |some (r,g1)=>toD bor r g1
 |none=>none
noncomputable def lE:List Ex->G->Option (List D×G)
 | [],g=>some ([],g)
 |e::es,g=>match gP rn bor k e g with
  |some (d,g1)=>match lE es g1 with
   |some (ds,g2)=>some (d::ds,g2)
   |none=>none
  |none=>none
def argsR:List Ex->G->Option (List R×G)
 | [],g=>some ([],g)
 |e::es,g=>match rn.e bor k e g with
  |some (r,g1)=>match argsR es g1 with
   |some (rs,g2)=>some (norm r::rs,g2)
   |none=>none
  |none=>none
def Bo:D->List CmpOp->List Ex->G->Option (Bool×G)
 |d1,[op],[b],g=>match gP rn bor k b g with
  |some (d2,g1)=>match fz op d1 d2 with |some c=>some (c,g1) |none=>none
  |none=>none
 |d1,op::op'::ops,b::b'::bs,g=>match gP rn bor k b g with
  |some (d2,g1)=>match fz op d1 d2 with
   |some true=>Bo d2 (op'::ops) (b'::bs) g1
   |some false=>some (false,g1)
   |none=>none
  |none=>none
 |_,_,_,_=>none
noncomputable def Ew:List Ex->G->Option (R×G)
 | [],_=>none
 | [a],g=>rn.e bor k a g
 |a::b::l,g=>match rn.e bor k a g with
  |some (.dat (.bl true),g1)=>Ew (b::l) g1
  |some (.dat (.bl false),g1)=>some (.dat (.bl false),g1)
  |_=>none
noncomputable def Wv:List Ex->G->Option (R×G)
 | [],_=>none
 | [a],g=>rn.e bor k a g
 |a::b::l,g=>match rn.e bor k a g with
  |some (.dat (.bl false),g1)=>Wv (b::l) g1
  |some (.dat (.bl true),g1)=>some (.dat (.bl true),g1)
  |_=>none
noncomputable def uB:List Ex->G->Option (Bool×G)
 | [],_=>none
 | [a],g=>rn.t bor k a g
 |a::b::l,g=>match rn.t bor k a g with
  |some (true,g1)=>uB (b::l) g1
  |some (false,g1)=>some (false,g1)
  |none=>none
noncomputable def Ey:List Ex->G->Option (Bool×G)
 | [],_=>none
 | [a],g=>rn.t bor k a g
 |a::b::l,g=>match rn.t bor k a g with
  |some (false,g1)=>Ey (b::l) g1
  |some (true,g1)=>some (true,g1)
  |none=>none
noncomputable def yt:Option Ex->G->Option (Option Int×G)
 |none,g=>some (none,g)
 |some e,g=>match gP rn bor k e g with
  |some (.int i,g1)=>some (some i,g1)
  |_=>none
noncomputable def Kf(j:Int):Bool:=decide (-(2 ^ 62)<=j)&&decide (j<2 ^ 62)
def fX(tp:Bool)(it:Ex)(g:G):Option (List D×G):=match it with
 |.cC a=>match gP rn bor k a g with
  |some (.int j,g1)=>if Kf j=true then some (cu 0 j.toNat,g1)else none
  |_=>none
 |.fF a b=>match gP rn bor k a g with
  |some (.int c,g1)=>match gP rn bor k b g1 with
   |some (.int j,g2)=>if Kf c=true/\Kf j=true then some (cu c (j - c).toNat,g2)else none
   |_=>none
  |_=>none
 |.zip a b=>if tp=true then match lE rn bor k [a,b] g with
  |some ([d1,d2],g1)=>match dF d1,dF d2 with |some l,some m=>if isTup d1=isTup d2 then some (rQ l m,g1)else none |_,_=>none
  |_=>none
  else none
 |e=>match gP rn bor k e g with
  |some (.tup l,g1)=>some (l,g1)
  |some (.lst l,g1)=>some (l,g1)
  |some (.fix l,g1)=>some (l,g1)
  |_=>none
noncomputable def Bp:Option Ex->G->Option (Bool×G)
 |none,g=>some (true,g)
 |some c,g=>rn.t bor k c g
def Ad(T:Tg)(last:Nat)(c:Option Ex)(e:Ex):List D->G->Option G
 | [],g=>some g
 |d::l,g=>match T.set d g with
  |none=>none
  |some g1=>match Bp rn bor k c g1 with
   |none=>none
   |some (false,g2)=>Ad T last c e l g2
   |some (true,g2)=>match gP rn bor k e g2 with
    |none=>none
    |some (x,g3)=>match g3[last]? with
     |some (.own acc)=>if acc.length<lim then Ad T last c e l (g3.set last (.own (acc++[x])))else none
     |_=>none
def bZ(n kk:Nat)(T:Tg)(it:Ex)(c:Option Ex)(e:Ex)(g:G):Option (List D×G):=match fX rn bor k T.kJ it g with
 |none=>none
 |some (items,g1)=>if g1.length=n/\(T.ix.any λi=>decide (i∈bor))=false then match Ad rn bor k T (n+kk) c e items (gC kk g1)with
   |none=>none
   |some gE=>match gE[n+kk]? with
    |some (.own acc)=>some (acc,gE.take n)
    |_=>none
  else none
def aI(fx:Fx)(k':Nat)(rs:List R)(g1:G):Option (R×G):=
 if rs.length=fx.np/\((vars 0 rs).map (·.2)).Nodup then match bY rs g1 with
  |none=>none
  |some gs=>match rn.b ((vars 0 rs).map (·.1)) k' fx.body (dh fx.n gs)with
   |some (.rt r,gc)=>match back (vars 0 rs) gc g1 with
    |some gO=>match cV ((vars 0 rs).map (·.1)) gc r with |some r'=>some (r',gO) |none=>none
    |none=>none
   |some (.nx,gc)=>match back (vars 0 rs) gc g1 with
    |some gO=>some (.dat .non,gO)
    |none=>none
   |_=>none
 else none
def QG(fns:List Fx)(f ir:Nat)(ca:List Addr)(e:Ex)(g:G):Option D:=match fns[f]?,k with
 |some fx,k'+2=>match rn.x [] k' e (g.map noOwn)with
  |some (ci,_)=>match ca[ci]? with
   |some C=>match rn.b [] k' (fx.body.drop 2) ((List.replicate fx.n .no).set ir (.dat (.lq C)))with
    |some (.rt r,g3)=>match cV [] g3 r with |some r'=>asD r' |none=>none
    |_=>none
   |none=>none
  |none=>none
 |_,_=>none
def yu(fns:List Fx)(f ir:Nat)(ca:List Addr):List Ex->G->Option (List D)
 | [],_=>some []
 |e::es,g=>match QG rn k fns f ir ca e g with
  |some d=>match yu fns f ir ca es g with |some ds=>some (d::ds) |none=>none
  |none=>none
def aW(fns:List Fx)(e:Ex)(g:G):Option (R×G):=match e with
 |.val d=>some (.dat d,g)
 |.slot i=>match g[i]? with |some (.dat d)=>some (.dat d,g) |some (.own _)=>some (.var i,g) |_=>none
 |.bin op a b=>match argsR rn bor k [a,b] g with
  |some ([r1,r2],g2)=>match pk r1 g2,pk r2 g2 with
   |some d1,some d2=>match mj op d1 d2 with |some r=>some (r,g2) |none=>none
   |_,_=>none
  |_=>none
 |.cmp op a b=>match argsR rn bor k [a,b] g with
  |some ([r1,r2],g2)=>match pk r1 g2,pk r2 g2 with
   |some d1,some d2=>match fz op d1 d2 with |some c=>some (.dat (.bl c),g2) |none=>none
   |_,_=>none
  |_=>none
 |.chain a ops l=>match gP rn bor k a g with
  |some (d1,g1)=>match Bo rn bor k d1 ops l g1 with |some (c,g2)=>some (.dat (.bl c),g2) |none=>none
  |none=>none
 |.neg a=>match gP rn bor k a g with |some (.int i,g1)=>some (.dat (.int (-i)),g1) |_=>none
 |.not a=>match rn.e bor k a g with |some (.dat (.bl c),g1)=>some (.dat (.bl (!c)),g1) |_=>none
 |.and l=>Ew rn bor k l g
 |.or l=>Wv rn bor k l g
 |.ite c a b=>match rn.t bor k c g with
  |some (true,g1)=>rn.e bor k a g1
  |some (false,g1)=>rn.e bor k b g1
  |none=>none
 |.tup l=>match lE rn bor k l g with |some (ds,g1)=>if ds.length<=lim then some (.dat (.tup ds),g1)else none |none=>none
 |.lst l=>match lE rn bor k l g with |some (ds,g1)=>if ds.length<=lim then some (.new ds,g1)else none |none=>none
 |.ix a b=>match argsR rn bor k [a,b] g with
  |some ([r1,r2],g2)=>match pk r1 g2,pk r2 g2 with
   |some d1,some d2=>match HD d1 d2 with |some d=>some (.dat d,g2) |none=>none
   |_,_=>none
  |_=>none
 |.slice a lo hi=>match rn.e bor k a g with
  |some (r,g1)=>match yt rn bor k lo g1 with
   |some (i,g2)=>match yt rn bor k hi g2 with
    |some (j,g3)=>match norm r with
     |.dat (.tup l)=>some (.dat (.tup (iR l i j)),g3)
     |.dat (.fix l)=>some (.new (iR l i j),g3)
     |r'=>match pk r' g3 with |some (.lst l)=>some (.new (iR l i j),g3) |_=>none
    |none=>none
   |none=>none
  |none=>none
 |.call f l=>match fns[f]?,k with
  |some fx,k'+1=>match argsR rn bor k l g with
   |some (rs,g1)=>aI rn fx k' rs g1
   |none=>none
  |_,_=>none
 |.blt b l=>match argsR rn bor k l g with
  |some (rs,g1)=>match tK rs g1 with
   |some ds=>match lD b ds with |some r=>some (r,g1) |none=>none
   |none=>none
  |none=>none
 |.mh a n=>match rn.e bor k a g with
  |some (r,g1)=>match pk (norm r) g1 with |some d=>some (.dat (.bl (eL (nF d) n)),g1) |none=>none
  |none=>none
 |.pG a ns=>match rn.e bor k a g with
  |some (r,g1)=>match pk (norm r) g1 with |some d=>some (.dat (.bl (ns.any (eL (nF d)))),g1) |none=>none
  |none=>none
 |.comp n kk T it c e=>match bZ rn bor k n kk T it c e g with |some (acc,g1)=>some (.new acc,g1) |none=>none
 |.rev a=>match rn.e bor k a g with
  |some (r,g1)=>match norm r with
   |.dat (.tup l)=>some (.dat (.tup l.reverse),g1)
   |r'=>match pk r' g1 with |some (.lst l)=>some (.new l.reverse,g1) |_=>none
  |none=>none
 |.emp=>some (.dat .emp,g)
 |.stk=>none
 |.peek e=>if bor.isEmpty=true then match rn.e [] k e (g.map iN)with |some (.dat d,_)=>if flat d=true then some (.dat d,g)else none |_=>none else none
 |.refs f ir ca es=>match yu rn k fns f ir ca es g with |some ds=>some (.new ds,g) |none=>none
 |.iU f ir ca e=>match fns[f]?,k with
  |some fx,k'+2=>match rn.x [] k' e (g.map noOwn)with
   |some (ci,_)=>match ca[ci]? with
    |some C=>match rn.b [] k' (fx.body.drop 2) ((List.replicate fx.n .no).set ir (.dat (.lq C)))with
     |some (.rt r,g3)=>match cV [] g3 r with |some r'=>some (r',g) |none=>none
     |_=>none
    |none=>none
   |none=>none
  |_,_=>none
 |.lR a l=>match rn.e bor k a g with
  |some (r,g1)=>match pk (norm r) g1 with
   |some (.lq C)=>match l.lookup C with |some b=>some (.dat (.bl b),g1) |none=>none
   |some .non=>some (.dat (.bl false),g1)
   |_=>none
  |none=>none
 |.append i e=>match g[i]? with
  |some (.own _)=>match gP rn bor k e g with
   |some (d,g1)=>match g1[i]? with |some (.own l)=>if l.length<lim then some (.dat .non,g1.set i (.own (l++[d])))else none |_=>none
   |none=>none
  |_=>none
 |.extend i e=>match g[i]? with
  |some (.own _)=>match gP rn bor k e g with
   |some (.lst m,g1)=>match g1[i]? with |some (.own l)=>if l.length+m.length<=lim then some (.dat .non,g1.set i (.own (l++m)))else none |_=>none
   |_=>none
  |_=>none
 |.gu i e=>match g[i]? with
  |some (.own _)=>match gP rn bor k e g with
   |some (.int j,g1)=>match g1[i]? with
    |some (.own l)=>match oZ l.length j with
     |some n=>match l[n]? with |some d=>if l.length<lim then some (.dat d,g1.set i (.own (l.eraseIdx n)))else none |none=>none
     |none=>none
    |_=>none
   |_=>none
  |_=>none
 |.cC _=>none
 |.fF _ _=>none
 |.zip _ _=>none
 |.eX a=>match rn.e bor k a g with
  |some (r,g1)=>match pk (norm r) g1 with
   |some d=>match dF d with
    |some l=>match bL l with
     |some ns=>if ns.length<64 then some (.new ((bw ns).reverse.map .int),g1)else none
     |none=>none
    |none=>none
   |none=>none
  |none=>none
 |.gq a=>match gP rn bor k a g with
  |some (.int j,g1)=>if Kf j=true/\j.toNat<=lim then some (.new (cu 0 j.toNat),g1)else none
  |_=>none
def stepT(e:Ex)(g:G):Option (Bool×G):=match e with
 |.cmp op a b=>match argsR rn bor k [a,b] g with
  |some ([r1,r2],g2)=>match pk r1 g2,pk r2 g2 with
   |some d1,some d2=>match fz op d1 d2 with |some c=>some (c,g2) |none=>none
   |_,_=>none
  |_=>none
 |.chain a ops l=>match gP rn bor k a g with
  |some (d1,g1)=>Bo rn bor k d1 ops l g1
  |none=>none
 |.not a=>match rn.t bor k a g with |some (c,g1)=>some (!c,g1) |none=>none
 |.and l=>uB rn bor k l g
 |.or l=>Ey rn bor k l g
 |.ite _ _ _=>none
 |e=>match rn.e bor k e g with
  |some (r,g1)=>match pk (norm r) g1 with
   |some d=>match Jx d with |some c=>some (c,g1) |none=>none
   |none=>none
  |none=>none
def n8(T:Tg)(b:G->Option (Fl×G)):List D->G->Option (Fl×G)
 | [],g=>some (.nx,g)
 |d::l,g=>match T.set d g with
  |none=>none
  |some g0=>match b g0 with
   |none=>none
   |some (.nx,g1)=>n8 T b l g1
   |some (.ct,g1)=>n8 T b l g1
   |some (.bk,g1)=>some (.nx,g1)
   |some (.rt r,g1)=>some (.rt r,g1)
noncomputable def MK(c:G->Option (Bool×G))(b:G->Option (Fl×G)):Nat->G->Option (Fl×G)
 | 0,_=>none
 |n+1,g=>match c g with
  |none=>none
  |some (false,g1)=>some (.nx,g1)
  |some (true,g1)=>match b g1 with
   |none=>none
   |some (.nx,g2)=>MK c b n g2
   |some (.ct,g2)=>MK c b n g2
   |some (.bk,g2)=>some (.nx,g2)
   |some (.rt r,g2)=>some (.rt r,g2)
def aE(st:Sm)(g:G):Option (Fl×G):=match st with
 |.ret e=>match rn.e bor k e g with |some (r,g1)=>some (.rt r,g1) |none=>none
 |.expr e=>match rn.e bor k e g with |some (_,g1)=>some (.nx,g1) |none=>none
 |.set i e=>if i∈bor then none else match rn.e bor k e g with
  |some (.new l,g1)=>if i<g1.length then some (.nx,g1.set i (.own l))else none
  |some (r,g1)=>match toD bor r g1 with |some (d,g2)=>some (.nx,g2.set i (.dat d)) |none=>none
  |none=>none
 |.setC i e=>if i∈bor then none else match e with
  |.comp n kk T it c e=>match bZ rn bor k n kk T it c e g with
   |some (acc,g1)=>if i<g1.length then some (.nx,g1.set i (.own acc))else none
   |none=>none
  |_=>none
 |.tgt T e=>if T.ix.any (λi=>decide (i∈bor))=true then none else match gP rn bor k e g with
  |some (d,g1)=>match T.set d g1 with |some g2=>some (.nx,g2) |none=>none
  |none=>none
 |.item i j e=>match gP rn bor k e g with
  |some (d,g1)=>match g1[i]? with
   |some (.own _)=>match gP rn bor k j g1 with
    |some (.int n,g2)=>match g2[i]? with
     |some (.own l)=>match oZ l.length n with |some m=>some (.nx,g2.set i (.own (l.set m d))) |none=>none
     |_=>none
    |_=>none
   |_=>none
  |none=>none
 |.par i j a b=>if i∈bor then none else if j∈bor then none else match lE rn bor k [a,b] g with
  |some ([d1,d2],g1)=>some (.nx,(g1.set i (.dat d1)).set j (.dat d2))
  |_=>none
 |.ite c a b=>match rn.t bor k c g with
  |some (true,g1)=>rn.b bor k a g1
  |some (false,g1)=>rn.b bor k b g1
  |none=>none
 |.loop T it b=>if T.ix.any (λi=>decide (i∈bor))=true then none else match fX rn bor k T.kJ it g with
  |some (items,g1)=>n8 T (rn.b bor k b) items g1
  |none=>none
 |.while c b=>MK (rn.t bor k c) (rn.b bor k b) 100000 g
 |.raise _ _=>none
 |.calls ic x op rhs ret b=>match g[ic]? with
  |some .no=>match rn.e bor k x g with
   |some (.new ds,_)=>match rn.e bor k rhs g with
    |some (r2,g2)=>match pk (norm r2) g2 with
     |some d2=>match fz op (.lst ds) d2 with
      |some c=>if ret=true then some (.rt (.dat (.bl c)),g2)else if c=true then rn.b bor k b g2 else some (.nx,g2)
      |none=>none
     |none=>none
    |none=>none
   |_=>none
  |_=>none
 |.rows im it iy ia ib=>match g[im]?,g[it]? with
  |some (.dat (.int m)),some (.dat (.tup ak))=>match g[iy]?,g[ia]?,g[ib]? with
   |some .no,some .no,some .no=>if 0<=m/\m<=1000 then match g5 ak (List.replicate m.toNat [])with |some ll=>some (.rt (.dat (.lst (ll.map .lst))),g) |none=>none else none
   |_,_,_=>none
  |_,_=>none
 |.stuck=>none
def bN:List Sm->G->Option (Fl×G)
 | [],g=>some (.nx,g)
 |st::rest,g=>match aE rn bor k st g with
  |some (.nx,g1)=>bN rest g1
  |some (f,g1)=>some (f,g1)
  |none=>none
noncomputable def xArgs:List Ex->G->Option (Nat×G)
 | [],_=>none
 |e::es,g=>match rn.x bor k e g with
  |some r=>some r
  |none=>match rn.e bor k e g with
   |some (_,g1)=>xArgs es g1
   |none=>none
def uC(fx:Fx)(k':Nat)(rs:List R)(g1:G):Option (Nat×G):=
 if rs.length=fx.np/\((vars 0 rs).map (·.2)).Nodup then match bY rs g1 with
  |none=>none
  |some gs=>match rn.xb ((vars 0 rs).map (·.1)) k' fx.body (dh fx.n gs)with
   |some (ci,gc)=>match back (vars 0 rs) gc g1 with |some gO=>some (ci,gO) |none=>none
   |none=>none
 else none
def uD(fns:List Fx)(e:Ex)(g:G):Option (Nat×G):=match e with
 |.call f l=>match xArgs rn bor k l g with
  |some r=>some r
  |none=>match fns[f]?,k with
   |some fx,k'+1=>match argsR rn bor k l g with
    |some (rs,g1)=>uC rn fx k' rs g1
    |none=>none
   |_,_=>none
 |_=>none
noncomputable def rS(e:Ex)(g:G):Option (Nat×G):=match e with
 |.not a=>rn.xt bor k a g
 |.call f l=>rn.x bor k (.call f l) g
 |_=>none
noncomputable def n9(st:Sm)(g:G):Option (Nat×G):=match st with
 |.ret e=>rn.x bor k e g
 |.expr e=>rn.x bor k e g
 |.ite c a b=>match rn.xt bor k c g with
  |some r=>some r
  |none=>match rn.t bor k c g with
   |some (true,g1)=>rn.xb bor k a g1
   |some (false,g1)=>rn.xb bor k b g1
   |none=>none
 |.raise ci e=>match gP rn bor k e g with |some (_,g1)=>some (ci,g1) |none=>none
 |_=>none
def jk:List Sm->G->Option (Nat×G)
 | [],_=>none
 |st::rest,g=>match n9 rn bor k st g with
  |some r=>some r
  |none=>match aE rn bor k st g with
   |some (.nx,g1)=>jk rest g1
   |_=>none
end
def step(fns:List Fx)(rn:Rn):Rn:=⟨λbor k e g=>aW rn bor k fns e g,λbor k e g=>stepT rn bor k e g,λbor k l g=>bN rn bor k l g,λbor k e g=>uD rn bor k fns e g,λbor k e g=>rS rn bor k e g,λbor k l g=>jk rn bor k l g⟩
noncomputable def rn0:Rn:=⟨λ_ _ _ _=>none,λ_ _ _ _=>none,λ_ _ _ _=>none,λ_ _ _ _=>none,λ_ _ _ _=>none,λ_ _ _ _=>none⟩
def run(fns:List Fx):Nat->Rn
 | 0=>rn0
 |n+1=>step fns (run fns n)
structure Ct where
 N:List Str
 sc:Scope
 df:Bool
 q:Str
structure Fi where
 name:Str
 qual:Str
 st:Stmt
 N:List Str
 ps:List Str
structure Pg where
 fn:List Fi
 ct:List (Str×D)
 bn:List Str
 cls:List Str:=[]
 lam:Bool:=false
 iV:List Addr:=[]
 kt:Str:=Str.empty
 ups:List (Str×List (Addr×Bool)):=[]
def iW:Str:= "law.<locals>.<lambda>"
def Ez(K:Frag)(mg:Str->Option Value)(bE:Value):Prop:=
 ∃c q,bE=.ref c/\(∀b:Heap,K.In b->PySem.W.CodeHd b c q)/\(q,iW)∈cH K/\(∀b:Heap,K.In b->b.BuiltinsAt mg q)/\mainGlobals≠q
structure rT(P:Pg)(K:Frag)(mg:Str->Option Value):Prop where
 fn:∀(i:Nat) (fi:Fi),P.fn[i]?=some fi->∃f fd,mg fi.name=some (.ref f)/\Hs K fi.name fi.qual fi.st f fd/\bV fi.N fi.ps (aD fi.st)/\L2.Binds K fd fi.ps []/\(fi.name==("__debug__":Str))=false
 ct:∀(x:Str) (d:D),(x,d)∈P.ct->(x==("__debug__":Str))=false/\∃v u,mg x=some u/\RelV v u/\∀M H,Rep K M H d v
 bn:∀x∈P.bn,mg x=none
 cls:∀x∈P.cls,(x==("__debug__":Str))=false/\∃C,mg x=some (.ref C)/\fc K C
 lam:P.lam=true->∀bE,PySem.W.codeIn K bE "law"=true->Ez K mg bE
 iV:∀(i:Nat) (C:Addr),P.iV[i]?=some C->∃x,P.cls[i]?=some x/\mg x=some (.ref C)/\fc K C/\Ht K C
 kt:P.lam=true->(P.kt==("__debug__":Str))=false/\∃D,mg P.kt=some (.ref D)/\fc K D/\∀C∈P.iV,uw K C D=true
 ups:∀(x:Str) (l:List (Addr×Bool)),(x,l)∈P.ups->(x==("__debug__":Str))=false/\∃cv,((mg x=some cv/\∃D,cv=.ref D)\/(x∈P.bn/\x≠ "__name__" /\bootBuiltins x=some cv/\∃n,cv=.type n))/\PySem.W.kitOne K (.type "NoneType") cv=some false/\∀C b,l.lookup C=some b->PySem.W.kitOne K (.ref C) cv=some b
structure aX(P:Pg)(k:Nat)(X:Cx)(c:Ct):Prop where
 N:X.N=c.N
 nd:c.N.Nodup
 QH:∀x,c.sc.names.lookup x=some .local->X.env.scope.names.lookup x=some .local
 jA:∀x,c.sc.names.lookup x=some .globalImplicit->Gl X x
 fre:∀x,c.sc.names.lookup x=some .cell\/c.sc.names.lookup x=some .free->X.env.scope.names.lookup x=some .cell\/X.env.scope.names.lookup x=some .free
 YB:c.df=true->∀x,c.sc.names.lookup x=some .cell->X.env.scope.names.lookup x=some .cell
 fn:∀x,c.df=true\/c.sc.names.lookup x=some .local->X.fn x=true
 bk:c.df=true->X.env.blockKind=.function
 calm:X.calm=true
 xe:X.xe=λ_ _=>False
 md:rT P X.K X.mg
 room:cG k X.A
 lam:c.q = "law" ->P.lam=true->X.env.qual ++ "<lambda>"=iW/\Ez X.K X.mg X.env.code
noncomputable def gJ(sc:Scope)(x:Str):Bool:=match sc.names.lookup x with |some .local=>true |some .cell=>true |some .free=>true |_=>false
noncomputable def eG(c:Ct)(x:Str):Bool:=match c.sc.names.lookup x with |some .local=>true |some .cell=>c.df |_=>false
noncomputable def aY(x:Str):Bool:=!(x==("__debug__":Str))&&!(x==("__classdict__":Str))
section
theorem aX.vis(h:aX P k X c)(hv:gJ c.sc x=true):gR X.env.scope x:=by
 unfold gJ at hv;split at hv
 . rename_i e;exact .inl (h.QH x e)
 . rename_i e;exact (h.fre x (.inl e)).elim (λq=>.inr (.inl q)) λq=>.inr (.inr q)
 . rename_i e;exact (h.fre x (.inr e)).elim (λq=>.inr (.inl q)) λq=>.inr (.inr q)
 . cases hv
theorem aX.nm(h:aX P k X c)(hi:c.N[i]?=some x)(hs:eG c x=true):nI X x i:=by
 refine⟨h.N▸h.nd,by rw[h.N];exact hi,?_,.inl (h.fn x ?_)⟩
 .
  unfold eG at hs;split at hs
  . rename_i e;exact .inl (h.QH x e)
  . rename_i e;exact .inr (h.YB hs x e)
  . cases hs
 .
  unfold eG at hs;split at hs
  . rename_i e;exact .inr e
  . exact .inl hs
  . cases hs
theorem bD(h:aY x=true):(x==("__debug__":Str))=false/\(x==("__classdict__":Str))=false:=by unfold aY at h;simp only[eP,BE]at h;exact h
theorem cX{α:Type}{f:Int->Int->Option α}{a b:D}{r:α}(h:kK f a b=some r):∃i j,a=.int i/\b=.int j/\f i j=some r:=by
 unfold kK at h;split at h
 .
  split at h
  . exact⟨_,_,rfl,rfl,h⟩
  . cases h
 . cases h
theorem Kg{d1 d2:D}{r:R}(hK:z.K=X.K)(h:Kd d1 d2=some r):lK X z (binaryOp .Add) d1 d2 r:=by
 unfold Kd at h;split at h
 .
  split at h
  . cases h;exact xS N5
  . cases h
 .
  split at h
  .
   split at h
   . rename_i hc;cases h;exact Pp hc
   . cases h
  . cases h
 .
  split at h
  .
   split at h
   . rename_i hc;cases h;exact Jc hK hc
   . cases h
  . cases h
 . cases h
theorem Kh{d1:D}{k:Int}{r:R}(hK:z.K=X.K)(h:Eu d1 k=some r):lK X z (binaryOp .Mult) d1 (.int k) r:=by
 unfold Eu at h;split at h
 .
  split at h
  . rename_i hc;cases h;refine rC N7 ?_;unfold Et at hc;simp only[wS,eP,hU]at hc;exact hc
  . cases h
 .
  split at h
  . rename_i hc;cases h;exact Pq hc.1 hc.2.1 hc.2.2
  . cases h
 .
  split at h
  . rename_i hc;cases h;exact JW hK hc.1 hc.2.1 hc.2.2
  . cases h
 . cases h
theorem QJ(hK:z.K=X.K)(h:mj op d1 d2=some r):lK X z (binaryOp op) d1 d2 r:=by
 cases op with
 |Add=>exact Kg hK h
 |Sub=>obtain⟨i,j,rfl,rfl,h'⟩:=cX h;cases h';exact xS N6
 |Mult=>
  dsimp only[mj]at h;split at h
  . exact Kh hK h
  . cases h
 |FloorDiv=>
  obtain⟨i,j,rfl,rfl,h'⟩:=cX h;split at h'
  . rename_i hc;cases h';exact rC Ia hc
  . cases h'
 |Mod=>
  obtain⟨i,j,rfl,rfl,h'⟩:=cX h;split at h'
  . rename_i hc;cases h';exact rC N8 hc
  . cases h'
 |Pow=>
  obtain⟨i,j,rfl,rfl,h'⟩:=cX h;split at h'
  . rename_i hc;cases h';exact rC qT ⟨hc.1,by have:=hc.2.1;lia,hc.2.2⟩
  . cases h'
 |_=>cases h
theorem jl(hK:z.K=X.K)(hr:cG k X.A)(h:fz op d1 d2=some b):lK X z (compareOp op) d1 d2 (.dat (.bl b)):=by
 have hu:=hr.un;cases op with
 |Eq=>
  dsimp only[fz]at h;split at h
  . rename_i hc;cases h;simp only[gI,eP,hU]at hc;exact Vx hK hc.1.1 hc.1.2 (by have:=hc.2;lia)
  . cases h
 |NotEq=>
  dsimp only[fz]at h;split at h
  . rename_i hc;cases h;simp only[gI,eP,hU]at hc;exact Vz hK hc.1.1 hc.1.2 (by have:=hc.2;lia)
  . cases h
 |Lt=>
  dsimp only[fz,ltF]at h;split at h
  .
   split at h
   . cases h;exact rD U9
   . cases h
  .
   split at h
   .
    split at h
    .
     rename_i h1;split at h
     . rename_i h2;cases h;exact Py hK ⋯ h1 h2
     . cases h
    . cases h
   . cases h
  . cases h
 |LtE=>obtain⟨i,j,rfl,rfl,h'⟩:=cX h;cases h';exact rD Va
 |Gt=>obtain⟨i,j,rfl,rfl,h'⟩:=cX h;cases h';exact rD Vb
 |GtE=>obtain⟨i,j,rfl,rfl,h'⟩:=cX h;cases h';exact rD Vc
 |In=>
  dsimp only[fz]at h;split at h
  .
   rename_i hs;split at h
   . rename_i hc;cases h;simp only[Ke,eP,hU]at hc;exact VB hK hs hc.1.1 hc.1.2 (by have:=hc.2;lia)
   . cases h
  . cases h
 |_=>cases h
theorem QK(hK:z.K=X.K)(h:HD d1 d2=some d):Vt X z d1 d2 (.dat d):=by
 unfold HD at h;split at h
 . exact Pw hK h
 . exact Px hK h
 . exact Jd hK h
 . cases h
noncomputable def Ww:Bl->Str×Value
 |.len=>("len",.builtin "len")
 |.list=>("list",.type "list")
 |.tuple=>("tuple",.type "tuple")
 |.max=>("max",.builtin "max")
 |.min=>("min",.builtin "min")
 |.str=>("str",.type "str")
 |.all=>("all",.builtin "all")
 |.sorted=>("sorted",.builtin "sorted")
 |.sum=>("sum",.builtin "sum")
theorem QL{b:Bl}{d:D}{r:R}(hK:z.K=X.K)(hc:X.calm=true)(h:QF b d=some r):CallD X z (Ww b).2 [d] r:=by
 cases b <;> dsimp only[QF]at h
 case len=>
  split at h
  . rename_i e;cases h;exact PB hK e
  . cases h
 case list=>
  split at h
  . rename_i e;cases h;exact Je hK e
  . cases h
 case tuple=>
  split at h
  . rename_i e;cases h;exact CQ hK e
  . cases h
 case all=>
  split at h
  .
   split at h
   . rename_i e;cases h;exact PL hc e
   . cases h
  . cases h
 case sorted=>
  split at h
  .
   rename_i e1;split at h
   .
    rename_i e2;split at h
    . rename_i e3;cases h;exact zL hK e1 e2 e3
    . cases h
   .
    split at h
    .
     rename_i e2;split at h
     . rename_i e3;cases h;exact vW hK e1 e2 e3
     . cases h
    . cases h
  . cases h
 all_goals cases h
theorem QM(hK:z.K=X.K)(hc:X.calm=true)(h:lD b ds=some r):CallD X z (Ww b).2 ds r:=by
 unfold lD at h;split at h
 . exact QL hK hc h
 .
  cases b with
  |max=>obtain⟨i,j,rfl,rfl,h'⟩:=cX h;cases h';exact PJ hc
  |min=>obtain⟨i,j,rfl,rfl,h'⟩:=cX h;cases h';exact PK hc
  |_=>cases h
 . cases h
noncomputable def pH:List String:=["int", "bool", "str", "tuple", "list", "dict"]
theorem uE{K:Frag}{M:List Addr}{H:Hp}{v:V}{d:D}(p:Pk K M H d v){n:String}(hn:n∈pH):PySem.W.kitOne K (Bh d) (.type n)=some (eL (nF d) n):=by
 cases d with
 |lq C=>
  cases p with
  |of q=>
   cases q with
   |lq k _ _=>refine (k.kit n hn).trans ?_;unfold pH at hn;simp only[d0,mE,AI]at hn;rcases hn with rfl |rfl |rfl |rfl |rfl |rfl <;> first |rfl |decide
 |_=>unfold pH at hn;simp only[d0,mE,AI]at hn;rcases hn with rfl |rfl |rfl |rfl |rfl |rfl <;> first |rfl |decide
theorem qw{K:Frag}{M:List Addr}{H:Hp}{v:V}{d:D}(p:Pk K M H d v):∀{ns:List String},(∀n∈ns,n∈pH)->PySem.W.kitAny K (Bh d) (ns.map Value.type)=some (ns.any (eL (nF d)))
 | [],_=>rfl
 |n::ns,h=>by
  show (match PySem.W.kitOne K (Bh d) (.type n)with |some true=>some true |some false=>PySem.W.kitAny K (Bh d) (ns.map Value.type) |none=>none)=_
  rw[uE p (h n dA),qw p λm hm=>h m (b0 _ hm),List.any_cons]
  cases eL (nF d) n <;> rfl
end
noncomputable def pI(sc scope:Scope):Bool:=decide (scope.kind=.function)&&scope.names.all λy=>decide (y.2≠.cell)&&(decide (y.2≠.local)||decide (scope.names.lookup y.1=some .local)) &&
 (decide (y.2≠.free)||(decide (scope.names.lookup y.1=some .free)&&(decide (sc.names.lookup y.1=some .cell)||decide (sc.names.lookup y.1=some .free))))
noncomputable def jm(N N':List Str)(scope:Scope)(k:Nat):Bool:=decide (N'.length=N.length+(k+1))&&(match N'[N.length+k]? with |some x=>decide (scope.names.lookup x=none) |none=>true) &&
 (List.range N.length).all λi=>match N'[i]? with |some x=>decide (scope.names.lookup x=none)||(decide (N[i]?=some x)&&decide (scope.names.lookup x≠some .local)) |none=>true
inductive Ae(c:Ct):List Expr->List Nat->Prop
 |nil:Ae c [] []
 |cons {x:Str}{i:Nat}{pos:Pos}{es:List Expr}{is:List Nat}:c.N[i]?=some x->eG c x=true->Ae c es is->Ae c (.Name x pos::es) (i::is)
inductive wG(P:Pg)(c:Ct):List Expr->List String->Prop
 |nil:wG P c [] []
 |cons {T:Str}{n:String}{pos:Pos}{es:List Expr}{ns:List String}:T∈P.bn->c.sc.names.lookup T=some .globalImplicit->T=Str.ofString n->n∈pH->wG P c es ns->wG P c (.Name T pos::es) (n::ns)
inductive Kl(c:Ct):Expr->Tg->Prop
 |nm:c.N[i]?=some x->eG c x=true->Kl c (.Name x pos) (.nm i)
 |tp {es:List Expr}{is:List Nat}{k:Nat}{pos:Pos}:Ae c es is->Kl c (.Tuple es k pos) (.tp is)
noncomputable def Km(c:Ct)(x y:Str)(px py:Pos)(a b:Expr):Bool:=(c.sc.names.lookup x==some .local)&&(c.sc.names.lookup y==some .local)&&py.line==px.line&&!(x==y)&&!(foldedForSure 8 a&&foldedForSure 8 b)&&!(constantsAlone 8 a&&constantsAlone 8 b)&&c.df
noncomputable def Ko(c:Ct)(y:Str)(py pos:Pos)(scope:Scope):Bool:=(c.sc.names.lookup y==some .local)&&py.line==pos.line&&!(scope.names.any λ(n,k)=>n==y&&(k==.local||k==.cell))
def nmW(e:Expr):Option Str:=match e with |.Name x _=>some x |_=>none
noncomputable def tp2(e:Expr):Bool:=match e with |.Tuple vs _ _=>decide (vs.length=2) |_=>false
def EY(c:Ct)(es:List Expr)(e:Expr):Bool:=match es with
 | [a,b]=>tp2 e&&(c.df&&(match nmW a with |some x=>(match nmW b with |some y=>decide (c.sc.names.lookup x=some .cell)||decide (c.sc.names.lookup y=some .cell) |none=>false) |none=>false))
 |_=>false
inductive jS(R:Expr->Ex->Prop):List Expr->List Ex->Prop
 |nil:jS R [] []
 |cons {e:Expr}{es:List Expr}{x:Ex}{xs:List Ex}:R e x->jS R es xs->jS R (e::es) (x::xs)
inductive Af(R:Expr->Ex->Prop):Option Expr->Option Ex->Prop
 |none:Af R Option.none Option.none
 |some {e:Expr}{x:Ex}:R e x->Af R (Option.some e) (Option.some x)
inductive uF(R:Expr->Ex->Prop):List Expr->Option Ex->Prop
 |none:uF R [] Option.none
 |some {e:Expr}{x:Ex}:R e x->uF R [e] (Option.some x)
inductive rW(P:Pg)(R:Expr->Ex->Prop)(c:Ct):Expr->Ex->Prop
 |seq:R e x->rW P R c e x
 |cC:R a xa->("range":Str)∈P.bn->c.sc.names.lookup ("range":Str)=some .globalImplicit->rW P R c (.Call (.Name "range" p) [a] [] pos) (.cC xa)
 |fF:R a xa->R b xb->("range":Str)∈P.bn->c.sc.names.lookup ("range":Str)=some .globalImplicit->rW P R c (.Call (.Name "range" p) [a,b] [] pos) (.fF xa xb)
 |zip:R a xa->R b xb->("zip":Str)∈P.bn->c.sc.names.lookup ("zip":Str)=some .globalImplicit->rW P R c (.Call (.Name "zip" p) [a,b] [] pos) (.zip xa xb)
noncomputable def yw(e:Expr):Option Str:=match e with |.Name x _=>some x |_=>none
theorem oh{e:Expr}{x:Str}(h:yw e=some x):∃p,e=.Name x p:=by cases e <;> first | (cases h;exact⟨_,rfl⟩) |cases h
noncomputable def Fb{α:Type}(l:List α):Option α:=match l with | [a]=>some a |_=>none
theorem mq{α:Type}{l:List α}{a:α}(h:Fb l=some a):l=[a]:=by
 cases l with
 |nil=>cases h
 |cons b l=>cases l with
  |nil=>cases h;rfl
  |cons _ _=>cases h
noncomputable def Wx(s:Stmt):Option (List Expr×Expr):=match s with |.Assign ts e _=>some (ts,e) |_=>none
theorem Kp{s:Stmt}{r:List Expr×Expr}(h:Wx s=some r):∃p,s=.Assign r.1 r.2 p:=by cases s <;> first | (cases h;exact⟨_,rfl⟩) |cases h
noncomputable def Wy(e:Expr):Option Const:=match e with |.Constant c _ _=>some c |_=>none
theorem Kq(h:Wy e=some c):∃j p,e=.Constant c j p:=by cases e <;> first | (cases h;exact⟨_,_,rfl⟩) |cases h
noncomputable def Wz(c:Const):Option Unit:=match c with |.none=>some () |_=>none
theorem Kr(h:Wz c=some ()):c=.none:=by cases c <;> first |rfl |cases h
noncomputable def WD(s:Stmt):Option Expr:=match s with |.Expr e _=>some e |_=>none
theorem Ks{s:Stmt}{e:Expr}(h:WD s=some e):∃p,s=.Expr e p:=by cases s <;> first | (cases h;exact⟨_,rfl⟩) |cases h
noncomputable def WK(e:Expr):Option (Expr×List Expr×List Keyword):=match e with |.Call f as ks _=>some (f,as,ks) |_=>none
theorem Ku{e:Expr}{r:Expr×List Expr×List Keyword}(h:WK e=some r):∃p,e=.Call r.1 r.2.1 r.2.2 p:=by cases e <;> first | (cases h;exact⟨_,rfl⟩) |cases h
noncomputable def WL(s:Stmt):Option (List Stmt×List ExceptHandler×List Stmt×List Stmt):=match s with |.Try b h o f _=>some (b,h,o,f) |_=>none
theorem Kv{s:Stmt}{r:List Stmt×List ExceptHandler×List Stmt×List Stmt}(h:WL s=some r):∃p,s=.Try r.1 r.2.1 r.2.2.1 r.2.2.2 p:=by cases s <;> first | (cases h;exact⟨_,rfl⟩) |cases h
noncomputable def Fc{α:Type}(l:List α):Option Unit:=match l with | []=>some () |_=>none
theorem mz{α:Type}{l:List α}(h:Fc l=some ()):l=[]:=by cases l with |nil=>rfl |cons _ _=>cases h
noncomputable def WM(h:ExceptHandler):Option (Expr×Str×List Stmt):=match h with |.ExceptHandler t n b _=>t.bind λt=>n.bind λn=>some (t,n,b)
theorem Kw{h:ExceptHandler}{r:Expr×Str×List Stmt}(e:WM h=some r):∃p,h=.ExceptHandler (some r.1) (some r.2.1) r.2.2 p:=by
 obtain⟨t,n,b,p⟩:=h;cases t with
 |none=>cases e
 |some t=>cases n with
  |none=>cases e
  |some n=>cases e;exact⟨p,rfl⟩
def yx(s:Stmt):Option (Str×Expr):=(Wx s).bind λr=>(Fb r.1).bind λt=>(yw t).bind λx=>some (x,r.2)
theorem uG{s:Stmt}{r:Str×Expr}(h:yx s=some r):∃p q,s=.Assign [.Name r.1 p] r.2 q:=by unfold yx at h;simp only[eM]at h;obtain⟨⟨ts,e⟩,h1,t,h2,x,h3,h4⟩:=h;cases h4;obtain⟨p,rfl⟩:=Kp h1;obtain⟨q,rfl⟩:=oh h3;have:=mq h2;dsimp only at this;subst this;exact⟨q,p,rfl⟩
def QS(l:List Stmt):Option Str:=(Fb l).bind λs3=>(WD s3).bind λce=>(WK ce).bind λf=>(Fc f.2.1).bind λ_=>(Fc f.2.2).bind λ_=>yw f.1
theorem Ky{l:List Stmt}{y:Str}(h:QS l=some y):∃py cp ep,l=[.Expr (.Call (.Name y py) [] [] cp) ep]:=by replace h:=eM.1 h;obtain⟨s3,h1,h⟩:=h;cases mq h1;clear h1;replace h:=eM.1 h;obtain⟨ce,h1,h⟩:=h;obtain⟨p,e1⟩:=Ks h1;cases e1;clear h1;replace h:=eM.1 h;obtain⟨⟨f1,f2,f3⟩,h1,h⟩:=h;obtain⟨q,e1⟩:=Ku h1;cases e1;clear h1;replace h:=eM.1 h;obtain⟨_,h1,h⟩:=h;replace h:=eM.1 h;obtain⟨_,h2,h⟩:=h;obtain⟨r,e1⟩:=oh h;exact⟨r,q,p,by have a:=mz h1;have b:=mz h2;dsimp only at a b e1 ⊢;rw[a,b,e1]⟩
def QT(l:List ExceptHandler):Option (Str×Str×Str×Str):=(Fb l).bind λhh=>(WM hh).bind λu=>(yw u.1).bind λke=>(Fb u.2.2).bind λs4=>(yx s4).bind λb=>(yw b.2).bind λMN=>some (ke,u.2.1,b.1,MN)
theorem Kz{l:List ExceptHandler}{r:Str×Str×Str×Str}(h:QT l=some r):∃kp uy ux ap hp,l=[.ExceptHandler (some (.Name r.1 kp)) (some r.2.1) [.Assign [.Name r.2.2.1 uy] (.Name r.2.2.2 ux) ap] hp]:=by replace h:=eM.1 h;obtain⟨hh,h1,h⟩:=h;cases mq h1;clear h1;replace h:=eM.1 h;obtain⟨⟨u1,u2,u3⟩,h1,h⟩:=h;obtain⟨p,e1⟩:=Kw h1;cases e1;clear h1;replace h:=eM.1 h;obtain⟨ke,h1,h⟩:=h;obtain⟨q,e1⟩:=oh h1;cases e1;clear h1;replace h:=eM.1 h;obtain⟨s4,h1,h⟩:=h;cases mq h1;clear h1;replace h:=eM.1 h;obtain⟨⟨b1,b2⟩,h1,h⟩:=h;obtain⟨m,n,e1⟩:=uG h1;cases e1;clear h1;replace h:=eM.1 h;obtain⟨en,h1,h⟩:=h;obtain⟨o,e1⟩:=oh h1;cases e1;clear h1;cases h;exact⟨q,m,o,n,p,rfl⟩
def WN(s:Stmt):Option Str:=(yx s).bind λa=>(Wy a.2).bind λc=>(Wz c).bind λ_=>some a.1
theorem KC(h:WN s=some x):∃p j np ap,s=.Assign [.Name x p] (.Constant .none j np) ap:=by replace h:=eM.1 h;obtain⟨⟨a1,a2⟩,h1,h⟩:=h;obtain⟨p,q,e1⟩:=uG h1;cases e1;clear h1;replace h:=eM.1 h;obtain⟨c,h1,h⟩:=h;obtain⟨j,m,e1⟩:=Kq h1;cases e1;clear h1;replace h:=eM.1 h;obtain⟨_,h1,h⟩:=h;cases Kr h1;clear h1;cases h;exact⟨p,j,m,q,rfl⟩
def WQ(s:Stmt):Option (Str×Str×Str×Str×Str):=(WL s).bind λt=>(Fc t.2.2.1).bind λ_=>(Fc t.2.2.2).bind λ_=>(QS t.1).bind λy=>(QT t.2.1).bind λu=>some (y,u)
theorem KD{s:Stmt}{r:Str×Str×Str×Str×Str}(h:WQ s=some r):∃l hs p,QS l=some r.1/\QT hs=some r.2/\s=.Try l hs [] [] p:=by replace h:=eM.1 h;obtain⟨⟨t1,t2,t3,t4⟩,h1,h⟩:=h;obtain⟨p,e1⟩:=Kv h1;cases e1;clear h1;replace h:=eM.1 h;obtain⟨_,h1,h⟩:=h;cases mz h1;clear h1;replace h:=eM.1 h;obtain⟨_,h1,h⟩:=h;cases mz h1;clear h1;replace h:=eM.1 h;obtain⟨y,h1,h⟩:=h;replace h:=eM.1 h;obtain⟨u,h2,h⟩:=h;cases h;exact⟨t1,t2,p,h1,h2,rfl⟩
def QV(l:List Stmt):Option (Str×Str×Str×Str×Str×Str):=match l with
 |s1::s2::_=>(WN s1).bind λa=>(WQ s2).bind λt=>some (a,t)
 |_=>none
theorem KH(h:QV l=some (er,y,ke,en,HF,MN)):∃z7 j np T7 py aU oV kp uy ux bH oW iA rest,l=.Assign [.Name er z7] (.Constant .none j np) T7::.Try [.Expr (.Call (.Name y py) [] [] aU) oV] [.ExceptHandler (some (.Name ke kp)) (some en) [.Assign [.Name HF uy] (.Name MN ux) bH] oW] [] [] iA::rest:=by
 unfold QV at h;split at h
 . replace h:=eM.1 h;obtain⟨a,h1,h⟩:=h;replace h:=eM.1 h;obtain⟨t,h2,h⟩:=h;cases h;obtain⟨p,j,np,ap,e1⟩:=KC h1;obtain⟨l,hs,tp,h3,h4,e2⟩:=KD h2;obtain⟨py,cp,ep,e3⟩:=Ky h3;obtain⟨kp,uy,ux,ap',hp,e4⟩:=Kz h4;exact⟨p,j,np,ap,py,cp,ep,kp,uy,ux,ap',hp,tp,_,by rw[e1,e2,e3,e4]⟩
 . cases h
def Fd(fi:Fi)(ir:Nat)(kt:Str):Bool:=match QV (bA fi.st)with
 |some (er,y,ke,en,HF,MN)=>decide ((ke=kt/\HF=er/\MN=en/\fi.ps=[y])/\((aD fi.st).names.lookup ke=some .globalImplicit/\fi.N[fi.N.idxOf en]?=some en/\(aD fi.st).names.lookup en=some .local)/\(fi.N[ir]?=some er/\fi.N[0]?=some y)/\(fi.N.idxOf en≠ir/\fi.N.idxOf en≠0/\ir≠0))&&((aY en&&aY y)&&(gJ (aD fi.st) y&&eG ⟨fi.N,aD fi.st,true,fi.qual⟩ er))
 |none=>false
noncomputable def Ag(params:Arguments)(scope:Scope):Bool:=match params with
 |⟨[],[],none,[],[],none,[]⟩=>(!scope.isCoroutine&&!scope.isGenerator)&&(decide (scope.kind=.function)&&scope.names.all λy=>decide (y.2≠.cell)&&decide (y.2≠.local))
 |_=>false
theorem rX(h:Ag params scope=true):dZ params scope:=by
 unfold Ag at h;split at h
 . simp only[eP,BE,hU,mP]at h;exact⟨h.1.1,h.1.2,h.2.1,λx hx=>(h.2.2 x hx).1,λx hx=>(h.2.2 x hx).2,rfl⟩
 . cases h
inductive gw(P:Pg)(R:Ct->Expr->Ex->Prop)(c:Ct):Expr->Ex->Prop
 |int {i:Int}{j:Nat}{pos:Pos}:gw P R c (.Constant (.int i) j pos) (.val (.int i))
 |bool:gw P R c (.Constant (.bool i) j pos) (.val (.bl i))
 |none {j:Nat}{pos:Pos}:gw P R c (.Constant .none j pos) (.val .non)
 |str:gw P R c (.Constant (.str i) j pos) (.val (.str i))
 |var {x:Str}{i:Nat}{pos:Pos}:c.N[i]?=some x->gJ c.sc x=true->aY x=true->gw P R c (.Name x pos) (.slot i)
 |glob {x:Str}{d:D}{pos:Pos}:(x,d)∈P.ct->c.sc.names.lookup x=some .globalImplicit->gw P R c (.Name x pos) (.val d)
 |bin {a b:Expr}{xa xb:Ex}{op:Operator}{pos:Pos}:R c a xa->R c b xb->gw P R c (.BinOp a op b pos) (.bin op xa xb)
 |cmp {a b:Expr}{xa xb:Ex}{op:CmpOp}{pos:Pos}:R c a xa->R c b xb->behindInMarks op b=false->gw P R c (.Compare a [op] [b] pos) (.cmp op xa xb)
 |chain {a b1 b2:Expr}{bs:List Expr}{xa x1 x2:Ex}{xs:List Ex}{Jv Jw:CmpOp}{ops:List CmpOp}{pos:Pos}:R c a xa->jS (R c) (b1::b2::bs) (x1::x2::xs)->lastMarks (Jv::Jw::ops) (b1::b2::bs)=false->gw P R c (.Compare a (Jv::Jw::ops) (b1::b2::bs) pos) (.chain xa (Jv::Jw::ops) (x1::x2::xs))
 |neg {a:Expr}{xa:Ex}{pos:Pos}:R c a xa->gw P R c (.UnaryOp .USub a pos) (.neg xa)
 |not {a:Expr}{xa:Ex}{pos:Pos}:R c a xa->gw P R c (.UnaryOp .Not a pos) (.not xa)
 |and {es:List Expr}{xs:List Ex}{pos:Pos}:jS (R c) es xs->gw P R c (.BoolOp .And es pos) (.and xs)
 |or {es:List Expr}{xs:List Ex}{pos:Pos}:jS (R c) es xs->gw P R c (.BoolOp .Or es pos) (.or xs)
 |ite {t a b:Expr}{xt xa xb:Ex}{pos:Pos}:R c t xt->R c a xa->R c b xb->gw P R c (.IfExp t a b pos) (.ite xt xa xb)
 |tup {es:List Expr}{xs:List Ex}{k:Nat}{pos:Pos}:jS (R c) es xs->gw P R c (.Tuple es k pos) (.tup xs)
 |lst {es:List Expr}{xs:List Ex}{pos:Pos}:jS (R c) es xs->gw P R c (.List es pos) (.lst xs)
 |ix {a b:Expr}{xa xb:Ex}{pos:Pos}:R c a xa->R c b xb->gw P R c (.Subscript a b pos) (.ix xa xb)
 |slice {a:Expr}{lo hi:Option Expr}{xa:Ex}{xl xh:Option Ex}{p2 pos:Pos}:R c a xa->Af (R c) lo xl->Af (R c) hi xh->gw P R c (.Subscript a (.Slice lo hi Option.none p2) pos) (.slice xa xl xh)
 |call {x:Str}{f:Nat}{fi:Fi}{e:Expr}{es:List Expr}{xs:List Ex}{p pos:Pos}:P.fn[f]?=some fi->fi.name=x->c.sc.names.lookup x=some .globalImplicit->jS (R c) (e::es) xs->gw P R c (.Call (.Name x p) (e::es) [] pos) (.call f xs)
 |blt {x:Str}{b:Bl}{e:Expr}{es:List Expr}{xs:List Ex}{p pos:Pos}:(Ww b).1=x->x∈P.bn->c.sc.names.lookup x=some .globalImplicit->jS (R c) (e::es) xs->gw P R c (.Call (.Name x p) (e::es) [] pos) (.blt b xs)
 |mh {a:Expr}{xa:Ex}{T:Str}{n:String}{p pT pos:Pos}:R c a xa->("isinstance":Str)∈P.bn->c.sc.names.lookup ("isinstance":Str)=some .globalImplicit->T∈P.bn->c.sc.names.lookup T=some .globalImplicit->T=Str.ofString n->n∈pH->gw P R c (.Call (.Name "isinstance" p) [a,.Name T pT] [] pos) (.mh xa n)
 |pG {a:Expr}{xa:Ex}{es:List Expr}{ns:List String}{k:Nat}{p pT pos:Pos}:R c a xa->("isinstance":Str)∈P.bn->c.sc.names.lookup ("isinstance":Str)=some .globalImplicit->ns.length<=100->
   wG P c es ns->gw P R c (.Call (.Name "isinstance" p) [a,.Tuple es k pT] [] pos) (.pG xa ns)
 |rev {a:Expr}{xa:Ex}{j:Nat}{p1 p2 p3 pos:Pos}:R c a xa->gw P R c (.Subscript a (.Slice none none (some (m1 j p1 p3)) p2) pos) (.rev xa)
 |emp {pos:Pos}:gw P R c (.Dict [] [] pos) .emp
 |peek {x:Str}{e:Expr}{es:List Expr}{xe:Ex}{p pos:Pos}:R c (.Call (.Name x p) (e::es) [] pos) xe->gw P R c (.Call (.Name x p) (e::es) [] pos) (.peek xe)
 |stk {a b:Expr}{op:Operator}{pos:Pos}:gw P R c (.BinOp a op b pos) .stk
 |lR {a:Expr}{xa:Ex}{T:Str}{l:List (Addr×Bool)}{p pT pos:Pos}:R c a xa->("isinstance":Str)∈P.bn->c.sc.names.lookup ("isinstance":Str)=some .globalImplicit->(T,l)∈P.ups->c.sc.names.lookup T=some .globalImplicit->gw P R c (.Call (.Name "isinstance" p) [a,.Name T pT] [] pos) (.lR xa l)
 |iU {x:Str}{f ir:Nat}{fi:Fi}{params:Arguments}{body:Expr}{scope:Scope}{xb:Ex}{ca:List Addr}{fp Ah pos:Pos}:P.fn[f]?=some fi->fi.name=x->(ca=P.iV/\c.sc.names.lookup x=some .globalImplicit\/ca=[])->c.q = "law" ->P.lam=true->Fd fi ir P.kt=true->pI c.sc scope=true->Ag params scope=true->
   R ⟨c.N,scope,false,Str.empty⟩ body xb->gw P R c (.Call (.Name x fp) [.Lambda params body scope Ah] [] pos) (.iU f ir ca xb)
 |comp {tg iter fM:Expr}{ifs:List Expr}{scope:Scope}{N':List Str}{k:Nat}{T:Tg}{it xe:Ex}{co:Option Ex}{pos:Pos}:pI c.sc scope=true->jm c.N N' scope k=true->N'.Nodup->Kl ⟨N',scope,false,Str.empty⟩ tg T->(∀i∈T.ix,c.N.length<=i/\i<c.N.length+k)->
   rW P (R c) c iter it->uF (R ⟨N',scope,false,Str.empty⟩) ifs co->R ⟨N',scope,false,Str.empty⟩ fM xe->gw P R c (.ListComp fM [⟨tg,iter,ifs,0⟩] scope pos) (.comp c.N.length k T it co xe)
 |gq {a:Expr}{xa:Ex}{lp p rp pos:Pos}:R c a xa->("range":Str)∈P.bn->c.sc.names.lookup ("range":Str)=some .globalImplicit->("list":Str)∈P.bn->c.sc.names.lookup ("list":Str)=some .globalImplicit->gw P R c (.Call (.Name "list" lp) [.Call (.Name "range" p) [a] [] rp] [] pos) (.gq xa)
 |eX {a:Expr}{xa:Ex}{j:Nat}{p kp kpos pos:Pos}:R c a xa->("sorted":Str)∈P.bn->c.sc.names.lookup ("sorted":Str)=some .globalImplicit->gw P R c (.Call (.Name "sorted" p) [a] [⟨Option.some "reverse",.Constant (.bool true) j kp,kpos⟩] pos) (.eX xa)
 |append {x:Str}{i:Nat}{e:Expr}{xe:Ex}{pn bH aU:Pos}:c.N[i]?=some x->gJ c.sc x=true->aY x=true->R c e xe->(bH.endLine==aU.line)=true->gw P R c (.Call (.Attribute (.Name x pn) "append" bH) [e] [] aU) (.append i xe)
 |extend {x:Str}{i:Nat}{e:Expr}{xe:Ex}{pn bH aU:Pos}:c.N[i]?=some x->gJ c.sc x=true->aY x=true->R c e xe->(bH.endLine==aU.line)=true->gw P R c (.Call (.Attribute (.Name x pn) "extend" bH) [e] [] aU) (.extend i xe)
 |gu {x:Str}{i:Nat}{e:Expr}{xe:Ex}{pn bH aU:Pos}:c.N[i]?=some x->gJ c.sc x=true->aY x=true->R c e xe->(bH.endLine==aU.line)=true->gw P R c (.Call (.Attribute (.Name x pn) "pop" bH) [e] [] aU) (.gu i xe)
abbrev p0:Pos:=⟨0,0,0,0⟩
inductive lF(R:Expr->Ex->Prop)(fx:Str)(f ir:Nat)(ca:List Addr):List Lt->List Ex->Prop
 |nil:lF R fx f ir ca [] []
 |cons {l:Lt}{ls:List Lt}{e:Ex}{es:List Ex}:R (.Call (.Name fx p0) [l.ex] [] p0) (.iU f ir [] e)->lF R fx f ir ca ls es->lF R fx f ir ca (l::ls) (e::es)
structure WR(c:Ct)(fx:Str)(scope:Scope)(N':List Str)(v:Str)(k j:Nat):Prop where
 lt:j<k
 bl:pI c.sc scope=true
 nm:jm c.N N' scope k=true
 nd:N'.Nodup
 ix:N'[c.N.length+j]?=some v
 st:eG ⟨N',scope,false,Str.empty⟩ v=true
 vi:gJ scope v=true
 pl:aY v=true
 gl:scope.names.lookup fx=some .globalImplicit
inductive KJ(RS:Stmt->Sm->Prop)(ce:Expr):Stmt->Bool->List Sm->Prop
 |ite {s:Stmt}{x:Sm}{pos:Pos}:RS s x->KJ RS ce (.If ce [s] [] pos) false [x]
 |ret {pos:Pos}:KJ RS ce (.Return (some ce) pos) true []
inductive Fe(P:Pg)(R:Expr->Ex->Prop)(RS:Stmt->Sm->Prop)(c:Ct):List Stmt->Sm->Prop
 |rows {y x mn a b tn:Str}{im it iy ia ib:Nat}{scope:Scope}{N':List Str}{k j:Nat}{lp px rp mp Ug Es ap py pa pb iA y1 y2 a1 a2 b1 b2 T9 Ub My MF Mz MJ Ua Uc Er rpos yr tp:Pos}{tk:Nat} :
   (c.N[im]?=some mn/\gJ c.sc mn=true/\aY mn=true)->(c.N[it]?=some tn/\gJ c.sc tn=true/\aY tn=true)->(c.N[iy]?=some y/\Ko c y py Es scope=true/\aY y=true)->
   ((c.N[ia]?=some a/\gJ c.sc a=true/\aY a=true)/\eG c a=true)->((c.N[ib]?=some b/\gJ c.sc b=true/\aY b=true)/\eG c b=true)->(ia≠iy/\ib≠iy/\ia≠ib)->
   (j<k/\pI c.sc scope=true/\jm c.N N' scope k=true/\N'.Nodup/\N'[c.N.length+j]?=some x/\eG ⟨N',scope,false,Str.empty⟩ x=true)->(("range":Str)∈P.bn/\c.sc.names.lookup ("range":Str)=some .globalImplicit)->(My.endLine==Mz.line)=true->(MF.endLine==MJ.line)=true->
   Fe P R RS c [.Assign [.Name y py] (.ListComp (.List [] lp) [⟨.Name x px,.Call (.Name "range" rp) [.Name mn mp] [] Ug,[],0⟩] scope Es) ap,.For (.Tuple [.Name a pa,.Name b pb] tk iA) (.Name tn tp) [.Expr (.Call (.Attribute (.Subscript (.Name y y1) (.Name a a1) T9) "append" My) [.Name b b1] [] Mz) Ua,.Expr (.Call (.Attribute (.Subscript (.Name y y2) (.Name b b2) Ub) "append" MF) [.Name a a2] [] MJ) Uc] [] Er,.Return (some (.Name y yr)) rpos] (.rows im it iy ia ib)
 |mk {y v fx:Str}{ic f ir:Nat}{l:Lt}{ls:List Lt}{e:Ex}{es:List Ex}{ss:List Stmt}{st:Stmt}{scope:Scope}{N':List Str}{k j:Nat}{pF:Expr}{op:CmpOp}{rhs:Ex}{ret:Bool}{b:List Sm}{py lp pos fp vp cp tp ip Es cmp:Pos} :
   c.N[ic]?=some y->eG c y=true->gJ c.sc y=true->aY y=true->wC y ss ls->lF R fx f ir P.iV (l::ls) (e::es)->ls.length<900->WR c fx scope N' v k j->R pF rhs->behindInMarks op pF=false->
   KJ RS (.Compare (.ListComp (.Call (.Name fx fp) [.Name v vp] [] cp) [⟨.Name v tp,.Name y ip,[],0⟩] scope Es) [op] [pF] cmp) st ret b->
   Fe P R RS c (.Assign [.Name y py] (.List [l.ex] lp) pos::(ss++[st])) (.calls ic (.refs f ir P.iV (e::es)) op rhs ret b)
inductive oq(RG:List Stmt->Sm->Prop)(RS:Stmt->Sm->Prop):List Stmt->List Sm->Prop
 |nil:oq RG RS [] []
 |grp {ss rest:List Stmt}{x:Sm}{xs:List Sm}:RG ss x->oq RG RS rest xs->oq RG RS (ss++rest) (x::xs)
 |cons {s:Stmt}{ss:List Stmt}{x:Sm}{xs:List Sm}:RS s x->oq RG RS ss xs->oq RG RS (s::ss) (x::xs)
inductive jT(P:Pg)(R:Expr->Ex->Prop)(RS:Stmt->Sm->Prop)(c:Ct):Stmt->Sm->Prop
 |ret {e:Expr}{x:Ex}{pos:Pos}:R e x->jT P R RS c (.Return (some e) pos) (.ret x)
 |expr {e:Expr}{x:Ex}{pos:Pos}:R e x->(∀a b s p,e≠.ListComp a b s p)->jT P R RS c (.Expr e pos) (.expr x)
 |set {y:Str}{i:Nat}{e:Expr}{x:Ex}{py pos:Pos}:c.N[i]?=some y->eG c y=true->R e x->(∀a b s p,e=.ListComp a b s p->Ko c y py p s=false)->jT P R RS c (.Assign [.Name y py] e pos) (.set i x)
 |setC {y:Str}{i:Nat}{a:Expr}{b:List Comprehension}{s:Scope}{p:Pos}{n kk:Nat}{T:Tg}{it:Ex}{co:Option Ex}{x:Ex}{py pos:Pos}:c.N[i]?=some y->Ko c y py p s=true->R (.ListComp a b s p) (.comp n kk T it co x)->jT P R RS c (.Assign [.Name y py] (.ListComp a b s p) pos) (.setC i (.comp n kk T it co x))
 |tgt {es:List Expr}{k:Nat}{pt pos:Pos}{T:Tg}{e:Expr}{x:Ex}:Kl c (.Tuple es k pt) T->R e x->(∀vs k p,e≠.Tuple vs k p)\/EY c es e=true->(∀a b s p,e≠.ListComp a b s p)->jT P R RS c (.Assign [.Tuple es k pt] e pos) (.tgt T x)
 |item {y:Str}{i:Nat}{ix e:Expr}{xj x:Ex}{pn eS pos:Pos}:c.N[i]?=some y->gJ c.sc y=true->aY y=true->R ix xj->R e x->(∀a b s p,e≠.ListComp a b s p)->jT P R RS c (.Assign [.Subscript (.Name y pn) ix eS] e pos) (.item i xj x)
 |par {x y:Str}{i j:Nat}{a b:Expr}{xa xb:Ex}{px py pt xF pos:Pos}{kt k2:Nat}:c.N[i]?=some x->c.N[j]?=some y->i≠j->Km c x y px py a b=true->R a xa->R b xb->jT P R RS c (.Assign [.Tuple [.Name x px,.Name y py] kt pt] (.Tuple [a,b] k2 xF) pos) (.par i j xa xb)
 |ite {t:Expr}{a b:List Stmt}{xt:Ex}{xa xb:List Sm}{pos:Pos}:R t xt->oq (Fe P R RS c) RS a xa->oq (Fe P R RS c) RS b xb->jT P R RS c (.If t a b pos) (.ite xt xa xb)
 |loop {tg iter:Expr}{T:Tg}{it:Ex}{b:List Stmt}{xb:List Sm}{pos:Pos}:Kl c tg T->rW P R c iter it->oq (Fe P R RS c) RS b xb->jT P R RS c (.For tg iter b [] pos) (.loop T it xb)
 |while {t:Expr}{xt:Ex}{b:List Stmt}{xb:List Sm}{pos:Pos}:R t xt->oq (Fe P R RS c) RS b xb->jT P R RS c (.While t b [] pos) (.while xt xb)
 |raise {x:Str}{ci:Nat}{m:Expr}{xm:Ex}{np aU pos:Pos}:P.cls[ci]?=some x->c.sc.names.lookup x=some .globalImplicit->R m xm->jT P R RS c (.Raise (some (.Call (.Name x np) [m] [] aU)) none pos) (.raise ci xm)
 |stuck {s:Stmt}:jT P R RS c s .stuck
theorem aj{a b:Bool}(h:(a&&b)=true):a=true/\b=true:=by cases a <;> cases b <;> first |exact⟨rfl,rfl⟩ |cases h
theorem dec{p:Prop} [Decidable p] (h:decide p=true):p:=kA h
theorem rY{b:Bool}(h:(!b)=true):b=false:=by cases b <;> first |rfl |cases h
theorem rZ{α:Type}{l:List α}(h:l.isEmpty=true):l=[]:=by cases l with |nil=>rfl |cons _ _=>cases h
noncomputable def Uh(c:Ct)(x:Str):Bool:=decide (c.sc.names.lookup x=some .globalImplicit)
def yy(P:Pg)(c:Ct)(x:Str):Bool:=P.bn.contains x&&Uh c x
theorem aV{P:Pg}{c:Ct}{x:Str}(h:yy P c x=true):x∈P.bn/\c.sc.names.lookup x=some .globalImplicit:=⟨AF.mp (aj h).1,dec (aj h).2⟩
noncomputable def nm(c:Ct)(i:Nat):Str:=c.N.getD i Str.empty
def kL(c:Ct)(i:Nat):Bool:=decide (c.N[i]?=some (nm c i))&&(gJ c.sc (nm c i)&&aY (nm c i))
def YC(c:Ct)(i:Nat):Bool:=decide (c.N[i]?=some (nm c i))&&eG c (nm c i)
theorem eH{c:Ct}{i:Nat}(h:kL c i=true):c.N[i]?=some (nm c i)/\gJ c.sc (nm c i)=true/\aY (nm c i)=true:=⟨dec (aj h).1,(aj (aj h).2).1,(aj (aj h).2).2⟩
def bang(x:Str):Str:=⟨x.cps.push 33⟩
def WT(n:Nat):Str:=⟨(List.replicate n 33).toArray⟩
noncomputable def g6(scope:Scope):List Str:=scope.names.filterMap λy=>if y.2==.local then some y.1 else none
def ou(N:List Str)(scope:Scope):List Str:=(N.map λy=>if scope.names.lookup y==some .local then bang y else y)++g6 scope++[WT (N.length+1)]
noncomputable def ow:List Str->Bool
 | []=>true
 |x::l=>!l.contains x&&ow l
theorem iH:∀{l:List Str},ow l=true->l.Nodup
 | [],_=>oI
 |x::l,h=>by
  have h:(!l.contains x&&ow l)=true:=h;refine fA.mpr ⟨λhm=>?_,iH (aj h).2⟩
  have:=(aj h).1;rw[AF.mpr hm]at this;cases this
noncomputable def kids(e:Expr):List Expr:=match e with
 |.BoolOp _ vs _=>vs
 |.BinOp a _ b _=>[a,b]
 |.UnaryOp _ a _=>[a]
 |.Lambda _ b _ _=>[b]
 |.IfExp t a b _=>[t,a,b]
 |.ListComp e gs _ _=>e::gs.flatMap λg=>g.target::g.iter::g.ifs
 |.Compare a _ bs _=>a::bs
 |.Call f as ks _=>f::(as++ks.map (·.value))
 |.FormattedValue v _ _ _=>[v]
 |.JoinedStr vs _=>vs
 |.Attribute v _ _=>[v]
 |.Subscript a b _=>[a,b]
 |.List es _=>es
 |.Tuple es _ _=>es
 |.Slice a b s p=>[a.getD (.Name Str.empty p),b.getD (.Name Str.empty p),s.getD (.Name Str.empty p)]
 |_=>[]
def kid(e:Expr)(i:Nat):Expr:=(kids e).getD i e
noncomputable def r9(e:Expr):Nat:=match e with |.Constant _ k _=>k |.Tuple _ k _=>k |_=>0
noncomputable def fG(e:Expr):Scope:=match e with |.Lambda _ _ s _=>s |.ListComp _ _ s _=>s |_=>aD (.Pass e.pos)
noncomputable def QW(e:Expr):Arguments:=match e with |.Lambda a _ _ _=>a |_=>default
def opT(e:Expr):Operator:=match e with |.BinOp _ o _ _=>o |_=>.Add
noncomputable def kwT(e:Expr):Pos:=match e with |.Call _ _ ks _=>(match ks with |k::_=>k.pos |_=>e.pos) |_=>e.pos
def QX(c:Ct)(t:Expr):Ct:=⟨ou c.N (fG t),fG t,false,Str.empty⟩
def QZ(c:Ct)(t:Expr):Ct:=⟨c.N,fG t,false,Str.empty⟩
noncomputable def se(P:Pg)(i:Nat):Str:=match P.fn[i]? with |some fi=>fi.name |none=>Str.empty
theorem yz{P:Pg}{i:Nat}(h:P.fn[i]?.isSome=true):∃fi,P.fn[i]?=some fi/\fi.name=se P i:=by
 unfold se;cases e:P.fn[i]? with
 |none=>rw[e]at h;cases h
 |some g=>exact⟨g,rfl,rfl⟩
section
variable{R:Expr->Ex->Prop}{s:Ex->Expr->Expr}{f:Ex->Expr->Bool}(hf:∀{x t},f x t=true->R (s x t) x)
include hf
noncomputable def pJ(s:Ex->Expr->Expr)(t:Expr):Nat->List Ex->List Expr
 |_,[]=>[]
 |i,x::xs=>s x (kid t i)::pJ s t (i+1) xs
noncomputable def KN(f:Ex->Expr->Bool)(t:Expr):Nat->List Ex->Bool
 |_,[]=>true
 |i,x::xs=>f x (kid t i)&&KN f t (i+1) xs
theorem jo{i:Nat}{xs:List Ex}(h:KN f t i xs=true):jS R (pJ s t i xs) xs:=by
 induction xs generalizing i with
 |nil=>exact .nil
 |cons x xs ih=>exact .cons (hf (aj h).1) (ih (aj h).2)
noncomputable def Q5(s:Ex->Expr->Expr)(t:Expr)(x:Option Ex):Option Expr:=match x with |some x=>some (s x t) |none=>none
noncomputable def WW(f:Ex->Expr->Bool)(t:Expr)(x:Option Ex):Bool:=match x with |some x=>f x t |none=>true
theorem Fg{x:Option Ex}(h:WW f t x=true):Af R (Q5 s t x) x:=by
 cases x with
 |none=>exact .none
 |some x=>exact .some (hf h)
noncomputable def WX(s:Ex->Expr->Expr)(t:Expr)(x:Option Ex):List Expr:=match x with |some x=>[s x t] |none=>[]
theorem Q6{x:Option Ex}(h:WW f t x=true):uF R (WX s t x) x:=by
 cases x with
 |none=>exact .none
 |some x=>exact .some (hf h)
end
noncomputable def Q7(s:Ex->Expr->Expr)(x:Ex)(t:Expr):Expr:=match x with
 |.cC a=>.Call (.Name "range" (kid t 0).pos) [s a (kid t 1)] [] t.pos
 |.fF a b=>.Call (.Name "range" (kid t 0).pos) [s a (kid t 1),s b (kid t 2)] [] t.pos
 |.zip a b=>.Call (.Name "zip" (kid t 0).pos) [s a (kid t 1),s b (kid t 2)] [] t.pos
 |x=>s x t
def okW(P:Pg)(c:Ct)(f:Ex->Expr->Bool)(x:Ex)(t:Expr):Bool:=match x with
 |.cC a=>yy P c "range" && f a (kid t 1)
 |.fF a b=>yy P c "range" && (f a (kid t 1)&&f b (kid t 2))
 |.zip a b=>yy P c "zip" && (f a (kid t 1)&&f b (kid t 2))
 |x=>f x t
theorem Fj{P:Pg}{R:Expr->Ex->Prop}{s:Ex->Expr->Expr}{f:Ex->Expr->Bool}(hf:∀{x t},f x t=true->R (s x t) x){c:Ct}{x:Ex}{t:Expr}(h:okW P c f x t=true):rW P R c (Q7 s x t) x:=by
 cases x
 case cC a=>exact .cC (hf (aj h).2) (aV (aj h).1).1 (aV (aj h).1).2
 case fF a b=>exact .fF (hf (aj (aj h).2).1) (hf (aj (aj h).2).2) (aV (aj h).1).1 (aV (aj h).1).2
 case zip a b=>exact .zip (hf (aj (aj h).2).1) (hf (aj (aj h).2).2) (aV (aj h).1).1 (aV (aj h).1).2
 all_goals exact .seq (hf h)
noncomputable def Q8(t:Expr):Nat->List String->List Expr
 |_,[]=>[]
 |i,n::ns=>.Name (Str.ofString n) (kid t i).pos::Q8 t (i+1) ns
def okY(P:Pg)(c:Ct):List String->Bool
 | []=>true
 |n::ns=>(pH.contains n&&yy P c (Str.ofString n))&&okY P c ns
theorem Q9{P:Pg}{c:Ct}{t:Expr}{i:Nat}{ns:List String}(h:okY P c ns=true):wG P c (Q8 t i ns) ns:=by
 induction ns generalizing i with
 |nil=>exact .nil
 |cons n ns ih=>exact .cons (aV (aj (aj h).1).2).1 (aV (aj (aj h).1).2).2 rfl (AF.mp (aj (aj h).1).1) (ih (aj h).2)
noncomputable def KQ(c:Ct)(t:Expr):Nat->List Nat->List Expr
 |_,[]=>[]
 |j,i::is=>.Name (nm c i) (kid t j).pos::KQ c t (j+1) is
def okN(c:Ct):List Nat->Bool
 | []=>true
 |i::is=>YC c i&&okN c is
theorem Ra{c:Ct}{t:Expr}{j:Nat}{is:List Nat}(h:okN c is=true):Ae c (KQ c t j is) is:=by
 induction is generalizing j with
 |nil=>exact .nil
 |cons i is ih=>exact .cons (dec (aj (aj h).1).1) (aj (aj h).1).2 (ih (aj h).2)
def KR(c:Ct)(T:Tg)(t:Expr):Expr:=match T with
 |.nm i=>.Name (nm c i) t.pos
 |.tp is=>.Tuple (KQ c t 0 is) (r9 t) t.pos
theorem wH{c:Ct}{T:Tg}{t:Expr}(h:okN c T.ix=true):Kl c (KR c T t) T:=by
 cases T with
 |nm i=>exact .nm (dec (aj (aj h).1).1) (aj (aj h).1).2
 |tp is=>exact .tp (Ra h)
noncomputable def Rb(a b:D):Bool:=match a with |.int i=>(match b with |.int j=>decide (i=j) |_=>false) |_=>false
theorem KS(h:Rb a b=true):a=b:=by
 cases a with
 |int i=>cases b with
  |int j=>exact congrArg D.int (dec (show decide (i=j)=true from h))
  |_=>exact nt h
 |_=>exact nt h
def YD(y:Str)(d:D):List (Str×D)->Bool
 | []=>false
 |p::l=>(decide (p.1=y)&&Rb p.2 d)||YD y d l
theorem Rc{y:Str}{d:D}{l:List (Str×D)}(h:YD y d l=true):(y,d)∈l:=by
 induction l with
 |nil=>cases h
 |cons p l ih=>
  obtain⟨x,d'⟩:=p;have hh:((decide (x=y)&&Rb d' d)||YD y d l)=true:=h
  rcases wS _ _▸hh with h |h
  . obtain⟨h1,h2⟩:=aj h;obtain rfl:=dec h1;rw[KS h2];exact dA
  . exact b0 _ (ih h)
noncomputable def cstD(d:D):Const:=match d with |.int i=>.int i |.bl b=>.bool b |.str y=>.str y |_=>.none
noncomputable def cstK(d:D):Bool:=match d with |.int _=>true |.bl _=>true |.str _=>true |.non=>true |_=>false
def Fo(d:D)(t:Expr):Expr:=match yw t with |some y=>.Name y t.pos |none=>.Constant (cstD d) (r9 t) t.pos
def okV(P:Pg)(c:Ct)(d:D)(t:Expr):Bool:=match yw t with |some y=>Uh c y&&YD y d P.ct |none=>cstK d
theorem Rf{P:Pg}{R:Ct->Expr->Ex->Prop}{c:Ct}{d:D}{t:Expr}(h:okV P c d t=true):gw P R c (Fo d t) (.val d):=by
 unfold okV at h;unfold Fo;cases e:yw t with
 |some y=>rw[e]at h;exact .glob (Rc (aj h).2) (dec (aj h).1)
 |none=>
  rw[e]at h;cases d with
  |int i=>exact .int
  |bl i=>exact .bool
  |str i=>exact .str
  |non=>exact .none
  |_=>exact nt h
def blK(c:Ct)(t:Expr)(k:Nat):Bool:=pI c.sc (fG t)&&(jm c.N (ou c.N (fG t)) (fG t) k&&ow (ou c.N (fG t)))
def ixK(c:Ct)(k:Nat)(T:Tg):Bool:=T.ix.all λi=>decide (c.N.length<=i/\i<c.N.length+k)
theorem Rg{c:Ct}{k:Nat}{T:Tg}(h:ixK c k T=true):∀i∈T.ix,c.N.length<=i/\i<c.N.length+k:=λi hi=>dec (mP.mp h i hi)
def o1(x:Option Ex):Nat:=match x with |some _=>1 |none=>0
def WY(P:Pg)(i ir:Nat):Bool:=match P.fn[i]? with |some fi=>Fd fi ir P.kt |none=>false
def MP(e:Expr):Bool:=match e with |.Call f es ks _=>(yw f).isSome&&(!es.isEmpty&&ks.isEmpty) |_=>false
theorem uH{e:Expr}(h:MP e=true):∃x p a es pos,e=.Call (.Name x p) (a::es) [] pos:=by
 cases e
 case Call f es ks pos=>
  obtain⟨h1,h2⟩:=aj (show ((yw f).isSome&&(!es.isEmpty&&ks.isEmpty))=true from h);obtain⟨x,hx⟩:=Option.isSome_iff_exists.mp h1;obtain⟨p,rfl⟩:=oh hx;cases es with
  |nil=>cases (aj h2).1
  |cons a es=>rw[rZ (aj h2).2];exact⟨x,p,a,es,pos,rfl⟩
 all_goals exact nt h
def Rh(P:Pg)(s:Ct->Ex->Expr->Expr)(c:Ct)(x:Ex)(t:Expr):Expr:=match x with
 |.val d=>Fo d t
 |.slot i=>.Name (nm c i) t.pos
 |.bin op a b=>.BinOp (s c a (kid t 0)) op (s c b (kid t 1)) t.pos
 |.cmp op a b=>.Compare (s c a (kid t 0)) [op] [s c b (kid t 1)] t.pos
 |.chain a ops xs=>.Compare (s c a (kid t 0)) ops (pJ (s c) t 1 xs) t.pos
 |.neg a=>.UnaryOp .USub (s c a (kid t 0)) t.pos
 |.not a=>.UnaryOp .Not (s c a (kid t 0)) t.pos
 |.and xs=>.BoolOp .And (pJ (s c) t 0 xs) t.pos
 |.or xs=>.BoolOp .Or (pJ (s c) t 0 xs) t.pos
 |.ite a b d=>.IfExp (s c a (kid t 0)) (s c b (kid t 1)) (s c d (kid t 2)) t.pos
 |.tup xs=>.Tuple (pJ (s c) t 0 xs) (r9 t) t.pos
 |.lst xs=>.List (pJ (s c) t 0 xs) t.pos
 |.ix a b=>.Subscript (s c a (kid t 0)) (s c b (kid t 1)) t.pos
 |.slice a lo hi=>.Subscript (s c a (kid t 0)) (.Slice (Q5 (s c) (kid (kid t 1) 0) lo) (Q5 (s c) (kid (kid t 1) 1) hi) none (kid t 1).pos) t.pos
 |.call i xs=>.Call (.Name (se P i) (kid t 0).pos) (pJ (s c) t 1 xs) [] t.pos
 |.blt b xs=>.Call (.Name (Ww b).1 (kid t 0).pos) (pJ (s c) t 1 xs) [] t.pos
 |.mh a n=>.Call (.Name "isinstance" (kid t 0).pos) [s c a (kid t 1),.Name (Str.ofString n) (kid t 2).pos] [] t.pos
 |.pG a ns=>.Call (.Name "isinstance" (kid t 0).pos) [s c a (kid t 1),.Tuple (Q8 (kid t 2) 0 ns) (r9 (kid t 2)) (kid t 2).pos] [] t.pos
 |.comp _ _ T it co xe=>.ListComp (s (QX c t) xe (kid t 0)) [⟨KR (QX c t) T (kid t 1),Q7 (s c) it (kid t 2),WX (s (QX c t)) (kid t 3) co,0⟩] (fG t) t.pos
 |.rev a=>.Subscript (s c a (kid t 0)) (.Slice none none (some (m1 (r9 (kid (kid (kid t 1) 2) 0)) (kid (kid (kid t 1) 2) 0).pos (kid (kid t 1) 2).pos)) (kid t 1).pos) t.pos
 |.emp=>.Dict [] [] t.pos
 |.peek xe=>s c xe t
 |.stk=>.BinOp (kid t 0) (opT t) (kid t 1) t.pos
 |.lR a _=>.Call (.Name "isinstance" (kid t 0).pos) [s c a (kid t 1),.Name ((yw (kid t 2)).getD Str.empty) (kid t 2).pos] [] t.pos
 |.iU i _ _ xb=>.Call (.Name (se P i) (kid t 0).pos) [.Lambda (QW (kid t 1)) (s (QZ c (kid t 1)) xb (kid (kid t 1) 0)) (fG (kid t 1)) (kid t 1).pos] [] t.pos
 |.gq a=>.Call (.Name "list" (kid t 0).pos) [.Call (.Name "range" (kid (kid t 1) 0).pos) [s c a (kid (kid t 1) 1)] [] (kid t 1).pos] [] t.pos
 |.eX a=>.Call (.Name "sorted" (kid t 0).pos) [s c a (kid t 1)] [⟨some "reverse",.Constant (.bool true) (r9 (kid t 2)) (kid t 2).pos,kwT t⟩] t.pos
 |.append i x=>.Call (.Attribute (.Name (nm c i) (kid (kid t 0) 0).pos) "append" (kid t 0).pos) [s c x (kid t 1)] [] t.pos
 |.extend i x=>.Call (.Attribute (.Name (nm c i) (kid (kid t 0) 0).pos) "extend" (kid t 0).pos) [s c x (kid t 1)] [] t.pos
 |.gu i x=>.Call (.Attribute (.Name (nm c i) (kid (kid t 0) 0).pos) "pop" (kid t 0).pos) [s c x (kid t 1)] [] t.pos
 |_=>t
noncomputable def Ui(t:Expr):Bool:=(kid t 0).pos.endLine==t.pos.line
def ok1(P:Pg)(s:Ct->Ex->Expr->Expr)(f:Ct->Ex->Expr->Bool)(c:Ct)(x:Ex)(t:Expr):Bool:=match x with
 |.val d=>okV P c d t
 |.slot i=>kL c i
 |.bin _ a b=>f c a (kid t 0)&&f c b (kid t 1)
 |.cmp op a b=>f c a (kid t 0)&&(f c b (kid t 1)&&!behindInMarks op (s c b (kid t 1)))
 |.chain a ops xs=>f c a (kid t 0)&&(KN (f c) t 1 xs&&(!lastMarks ops (pJ (s c) t 1 xs)&&(decide (2<=ops.length)&&decide (2<=xs.length))))
 |.neg a=>f c a (kid t 0)
 |.not a=>f c a (kid t 0)
 |.and xs=>KN (f c) t 0 xs
 |.or xs=>KN (f c) t 0 xs
 |.ite a b d=>f c a (kid t 0)&&(f c b (kid t 1)&&f c d (kid t 2))
 |.tup xs=>KN (f c) t 0 xs
 |.lst xs=>KN (f c) t 0 xs
 |.ix a b=>f c a (kid t 0)&&f c b (kid t 1)
 |.slice a lo hi=>f c a (kid t 0)&&(WW (f c) (kid (kid t 1) 0) lo&&WW (f c) (kid (kid t 1) 1) hi)
 |.call i xs=>P.fn[i]?.isSome&&(Uh c (se P i)&&(KN (f c) t 1 xs&&!xs.isEmpty))
 |.blt b xs=>yy P c (Ww b).1&&(KN (f c) t 1 xs&&!xs.isEmpty)
 |.mh a n=>yy P c "isinstance" && (f c a (kid t 1)&&(pH.contains n&&yy P c (Str.ofString n)))
 |.pG a ns=>yy P c "isinstance" && (f c a (kid t 1)&&(decide (ns.length<=100)&&okY P c ns))
 |.comp n k T it co xe=>decide (n=c.N.length)&&(blK c t k&&(okN (QX c t) T.ix&&(ixK c k T&&(okW P c (f c) it (kid t 2)&&(WW (f (QX c t)) (kid t 3) co&&f (QX c t) xe (kid t 0))))))
 |.rev a=>f c a (kid t 0)
 |.emp=>true
 |.peek xe=>MP (s c xe t)&&f c xe t
 |.stk=>true
 |.lR a l=>yy P c "isinstance" && (f c a (kid t 1)&&(Uh c ((yw (kid t 2)).getD Str.empty)&&decide (((yw (kid t 2)).getD Str.empty,l)∈P.ups)))
 |.iU i ir ca xb=>P.fn[i]?.isSome&&((decide (ca=P.iV)&&Uh c (se P i)||ca.isEmpty)&&((decide (c.q = "law")&&P.lam)&&(WY P i ir&&(pI c.sc (fG (kid t 1))&&(Ag (QW (kid t 1)) (fG (kid t 1))&&f (QZ c (kid t 1)) xb (kid (kid t 1) 0))))))
 |.gq a=>(yy P c "range" && yy P c "list")&&f c a (kid (kid t 1) 1)
 |.eX a=>yy P c "sorted" && f c a (kid t 1)
 |.append i x=>Ui t&&(kL c i&&f c x (kid t 1))
 |.extend i x=>Ui t&&(kL c i&&f c x (kid t 1))
 |.gu i x=>Ui t&&(kL c i&&f c x (kid t 1))
 |_=>false
def g7(P:Pg):Nat->Ct->Ex->Expr->Expr
 | 0=>λ_ _ t=>t
 |n+1=>Rh P (g7 P n)
def qz(P:Pg):Nat->Ct->Ex->Expr->Bool
 | 0=>λ_ _ _=>false
 |n+1=>ok1 P (g7 P n) (qz P n)
def Cm(P:Pg)(c:Ct)(e:Expr)(x:Ex):Prop:=∃n t,e=g7 P n c x t/\qz P n c x t=true
theorem Cm.mk{P:Pg}{n:Nat}{c:Ct}{x:Ex}{t:Expr}(h:qz P n c x t=true):Cm P c (g7 P n c x t) x:=⟨n,t,rfl,h⟩
theorem Cm.out(h:Cm P c e x):gw P (Cm P) c e x:=by
 obtain⟨n,t,rfl,h⟩:=h;cases n with
 |zero=>cases h
 |succ n=>
 replace h:ok1 P (g7 P n) (qz P n) c x t=true:=h;show gw P (Cm P) c (Rh P (g7 P n) c x t) x;cases x
 case val d=>exact Rf h
 case slot i=>exact .var (eH h).1 (eH h).2.1 (eH h).2.2
 case bin op a b=>exact .bin (.mk (aj h).1) (.mk (aj h).2)
 case cmp op a b=>exact .cmp (.mk (aj h).1) (.mk (aj (aj h).2).1) (rY (aj (aj h).2).2)
 case chain a ops xs=>
  obtain⟨h1,h2⟩:=aj h;obtain⟨h3,h4⟩:=aj h2;obtain⟨h5,h6⟩:=aj h4;have l1:=dec (aj h6).1;have l2:=dec (aj h6).2
  match ops,l1,xs,l2,h3,h5 with
  |_::_::_,_,_::_::_,_,h3,h5=>exact .chain (.mk h1) (jo (R:=Cm P c) .mk h3) (rY h5)
 case neg a=>exact .neg (.mk h)
 case not a=>exact .not (.mk h)
 case and xs=>exact .and (jo (R:=Cm P c) .mk h)
 case or xs=>exact .or (jo (R:=Cm P c) .mk h)
 case ite a b d=>exact .ite (.mk (aj h).1) (.mk (aj (aj h).2).1) (.mk (aj (aj h).2).2)
 case tup xs=>exact .tup (jo (R:=Cm P c) .mk h)
 case lst xs=>exact .lst (jo (R:=Cm P c) .mk h)
 case ix a b=>exact .ix (.mk (aj h).1) (.mk (aj h).2)
 case slice a lo hi=>exact .slice (.mk (aj h).1) (Fg (R:=Cm P c) .mk (aj (aj h).2).1) (Fg (R:=Cm P c) .mk (aj (aj h).2).2)
 case call i xs=>
  obtain⟨h1,h2⟩:=aj h;obtain⟨h3,h4⟩:=aj h2;obtain⟨fi,q1,q2⟩:=yz h1;cases xs with
  |nil=>cases (aj h4).2
  |cons x xs=>exact .call q1 q2 (dec h3) (jo (R:=Cm P c) .mk (aj h4).1)
 case blt b xs=>
  cases xs with
  |nil=>cases (aj (aj h).2).2
  |cons x xs=>exact .blt rfl (aV (aj h).1).1 (aV (aj h).1).2 (jo (R:=Cm P c) .mk (aj (aj h).2).1)
 case mh a n=>exact .mh (.mk (aj (aj h).2).1) (aV (aj h).1).1 (aV (aj h).1).2 (aV (aj (aj (aj h).2).2).2).1 (aV (aj (aj (aj h).2).2).2).2 rfl (AF.mp (aj (aj (aj h).2).2).1)
 case pG a ns=>exact .pG (.mk (aj (aj h).2).1) (aV (aj h).1).1 (aV (aj h).1).2 (dec (aj (aj (aj h).2).2).1) (Q9 (aj (aj (aj h).2).2).2)
 case comp n' k T it co xe=>obtain⟨h1,a1⟩:=aj h;clear h;obtain⟨h2,a2⟩:=aj a1;obtain⟨h3,a3⟩:=aj a2;obtain⟨h4,a4⟩:=aj a3;obtain⟨h5,a5⟩:=aj a4;obtain rfl:=dec h1;exact .comp (aj h2).1 (aj (aj h2).2).1 (iH (aj (aj h2).2).2) (wH h3) (Rg h4) (Fj (R:=Cm P c) .mk h5) (Q6 (R:=Cm P (QX c t)) .mk (aj a5).1) (.mk (aj a5).2)
 case rev a=>exact .rev (.mk h)
 case emp=>exact .emp
 case peek xe=>have q:=Cm.mk (P:=P) (aj h).2;revert q;show Cm P c (g7 P n c xe t) xe->gw P (Cm P) c (g7 P n c xe t) (.peek xe);obtain⟨x,p,a,es,pos,e⟩:=uH (aj h).1;rw[e];exact .peek
 case stk=>exact .stk
 case lR a l=>exact .lR (.mk (aj (aj h).2).1) (aV (aj h).1).1 (aV (aj h).1).2 (dec (aj (aj (aj h).2).2).2) (dec (aj (aj (aj h).2).2).1)
 case iU i ir ca xb=>obtain⟨h1,k1⟩:=aj h;obtain⟨h2,k2⟩:=aj k1;obtain⟨h3,k3⟩:=aj k2;obtain⟨h5,k5⟩:=aj k3;obtain⟨fi,e1,e2⟩:=yz h1;unfold WY at h5;rw[e1]at h5;exact .iU e1 e2 ((Bool.or_eq_true_iff.mp h2).imp (λh=>⟨dec (aj h).1,dec (aj h).2⟩) rZ) (dec (aj h3).1) (aj h3).2 h5 (aj k5).1 (aj (aj k5).2).1 (.mk (aj (aj k5).2).2)
 case gq a=>exact .gq (.mk (aj h).2) (aV (aj (aj h).1).1).1 (aV (aj (aj h).1).1).2 (aV (aj (aj h).1).2).1 (aV (aj (aj h).1).2).2
 case eX a=>exact .eX (.mk (aj h).2) (aV (aj h).1).1 (aV (aj h).1).2
 case append i x=>exact .append (eH (aj (aj h).2).1).1 (eH (aj (aj h).2).1).2.1 (eH (aj (aj h).2).1).2.2 (.mk (aj (aj h).2).2) (aj h).1
 case extend i x=>exact .extend (eH (aj (aj h).2).1).1 (eH (aj (aj h).2).1).2.1 (eH (aj (aj h).2).1).2.2 (.mk (aj (aj h).2).2) (aj h).1
 case gu i x=>exact .gu (eH (aj (aj h).2).1).1 (eH (aj (aj h).2).1).2.1 (eH (aj (aj h).2).1).2.2 (.mk (aj (aj h).2).2) (aj h).1
 all_goals exact nt h
abbrev Bq (P:Pg) (c:Ct) (es:List Expr) (xs:List Ex):Prop:=jS (Cm P c) es xs
abbrev CmO (P:Pg) (c:Ct) (e:Option Expr) (x:Option Ex):Prop:=Af (Cm P c) e x
abbrev Ri (P:Pg) (c:Ct) (es:List Expr) (x:Option Ex):Prop:=uF (Cm P c) es x
abbrev CmI (P:Pg) (c:Ct) (e:Expr) (x:Ex):Prop:=rW P (Cm P c) c e x
noncomputable def ek(t:Stmt):List Expr:=match t with
 |.Return o p=>[o.getD (.Name Str.empty p)]
 |.Assign ts e _=>e::ts
 |.AugAssign a _ e _=>[a,e]
 |.For a b _ _ _=>[a,b]
 |.While a _ _ _=>[a]
 |.If a _ _ _=>[a]
 |.Raise o _ p=>[o.getD (.Name Str.empty p)]
 |.Expr e _=>[e]
 |_=>[]
def aF(t:Stmt)(i:Nat):Expr:=(ek t).getD i (.Name Str.empty t.pos)
noncomputable def Ai(t:Stmt):List Stmt:=match t with |.For _ _ b _ _=>b |.While _ b _ _=>b |.If _ b _ _=>b |_=>[]
noncomputable def YF(t:Stmt):List Stmt:=match t with |.If _ _ b _=>b |_=>[]
noncomputable def sg(l:List Stmt)(i:Nat):Stmt:=l.getD i (.Pass p0)
noncomputable def Fp(k:Scope->Pos->Bool)(e:Expr):Bool:=match e with |.ListComp _ _ s p=>k s p |_=>false
def W0(e:Expr):Bool:=match e with |.Tuple _ _ _=>false |_=>true
noncomputable def Rj:Sm->Nat
 |.calls _ x _ _ _ _=>(match x with |.refs _ _ _ es=>es.length+1 |_=>0)
 |.rows _ _ _ _ _=>3
 |_=>0
def pK(fg:Sm->List Stmt->List Stmt)(fs:Sm->Stmt->Stmt):List Sm->List Stmt->List Stmt
 | [],_=>[]
 |x::xs,ss=>if 0<Rj x then fg x (ss.take (Rj x))++pK fg fs xs (ss.drop (Rj x))else fs x (sg ss 0)::pK fg fs xs ss.tail
def HJ(fg:Sm->List Stmt->Bool)(fs:Sm->Stmt->Bool):List Sm->List Stmt->Bool
 | [],_=>true
 |x::xs,ss=>if 0<Rj x then fg x (ss.take (Rj x))&&HJ fg fs xs (ss.drop (Rj x))else fs x (sg ss 0)&&HJ fg fs xs ss.tail
theorem Rk{RG:List Stmt->Sm->Prop}{RS:Stmt->Sm->Prop}{sg':Sm->List Stmt->List Stmt}{kg:Sm->List Stmt->Bool}{ss':Sm->Stmt->Stmt}{ks:Sm->Stmt->Bool}(hg:∀{x ss},kg x ss=true->RG (sg' x ss) x)(hs:∀{x t},ks x t=true->RS (ss' x t) x){xs:List Sm}{ss:List Stmt}(h:HJ kg ks xs ss=true):oq RG RS (pK sg' ss' xs ss) xs:=by
 induction xs generalizing ss with
 |nil=>exact .nil
 |cons x xs ih=>
  unfold HJ at h;unfold pK;by_cases hx:0<Rj x
  .
   rw[fN hx]at h ⊢
   exact .grp (hg (aj h).1) (ih (aj h).2)
  .
   rw[fR hx]at h ⊢
   exact .cons (hs (aj h).1) (ih (aj h).2)
def W2(y a b:Str)(t:Stmt):Stmt:=.Expr (.Call (.Attribute (.Subscript (.Name y (kid (kid (kid (aF t 0) 0) 0) 0).pos) (.Name a (kid (kid (kid (aF t 0) 0) 0) 1).pos) (kid (kid (aF t 0) 0) 0).pos) "append" (kid (aF t 0) 0).pos) [.Name b (kid (aF t 0) 1).pos] [] (aF t 0).pos) t.pos
noncomputable def Rl(e:Expr):Str:=(yw e).getD Str.empty
def bvK(c:Ct)(sc:Scope)(x:Str):Bool:=pI c.sc sc&&(jm c.N (ou c.N sc) sc (g6 sc).length&&(ow (ou c.N sc)&&(decide ((g6 sc).idxOf x<(g6 sc).length/\(ou c.N sc)[c.N.length+(g6 sc).idxOf x]?=some x)&&eG ⟨ou c.N sc,sc,false,Str.empty⟩ x)))
def MT(c:Ct)(im it iy ia ib:Nat)(ss:List Stmt):List Stmt:=
 [.Assign [.Name (nm c iy) (aF (sg ss 0) 1).pos] (.ListComp (.List [] (kid (aF (sg ss 0) 0) 0).pos) [⟨.Name (Rl (kid (aF (sg ss 0) 0) 1)) (kid (aF (sg ss 0) 0) 1).pos,.Call (.Name "range" (kid (kid (aF (sg ss 0) 0) 2) 0).pos) [.Name (nm c im) (kid (kid (aF (sg ss 0) 0) 2) 1).pos] [] (kid (aF (sg ss 0) 0) 2).pos,[],0⟩] (fG (aF (sg ss 0) 0)) (aF (sg ss 0) 0).pos) (sg ss 0).pos,
 .For (.Tuple [.Name (nm c ia) (kid (aF (sg ss 1) 0) 0).pos,.Name (nm c ib) (kid (aF (sg ss 1) 0) 1).pos] (r9 (aF (sg ss 1) 0)) (aF (sg ss 1) 0).pos) (.Name (nm c it) (aF (sg ss 1) 1).pos) [W2 (nm c iy) (nm c ia) (nm c ib) (sg (Ai (sg ss 1)) 0),W2 (nm c iy) (nm c ib) (nm c ia) (sg (Ai (sg ss 1)) 1)] [] (sg ss 1).pos,
 .Return (some (.Name (nm c iy) (aF (sg ss 2) 0).pos)) (sg ss 2).pos]
def M7(P:Pg)(c:Ct)(im it iy ia ib:Nat)(ss:List Stmt):Bool:=decide (ia≠iy/\ib≠iy/\ia≠ib)&&(kL c im&&(kL c it&&((kL c iy&&Ko c (nm c iy) (aF (sg ss 0) 1).pos (aF (sg ss 0) 0).pos (fG (aF (sg ss 0) 0)))&&((kL c ia&&eG c (nm c ia))&&((kL c ib&&eG c (nm c ib)) &&
 (bvK c (fG (aF (sg ss 0) 0)) (Rl (kid (aF (sg ss 0) 0) 1))&&(yy P c "range" && (Ui (aF (sg (Ai (sg ss 1)) 0) 0)&&Ui (aF (sg (Ai (sg ss 1)) 1) 0)))))))))
theorem Fq{P:Pg}{R:Expr->Ex->Prop}{RS:Stmt->Sm->Prop}{c:Ct}{im it iy ia ib:Nat}{ss:List Stmt}(h:M7 P c im it iy ia ib ss=true):Fe P R RS c (MT c im it iy ia ib ss) (.rows im it iy ia ib):=by obtain⟨h1,a1⟩:=aj h;clear h;obtain⟨h2,a2⟩:=aj a1;obtain⟨h3,a3⟩:=aj a2;obtain⟨h4,a4⟩:=aj a3;obtain⟨h5,a5⟩:=aj a4;obtain⟨h6,a6⟩:=aj a5;obtain⟨h7,a7⟩:=aj a6;obtain⟨h8,a8⟩:=aj a7;obtain⟨k1,k2⟩:=aj (aj h7).2;exact .rows (eH h2) (eH h3) ⟨(eH (aj h4).1).1,(aj h4).2,(eH (aj h4).1).2.2⟩ ⟨eH (aj h5).1,(aj h5).2⟩ ⟨eH (aj h6).1,(aj h6).2⟩ (dec h1) ⟨(dec (aj (aj k2).2).1).1,(aj h7).1,k1,iH (aj k2).1,(dec (aj (aj k2).2).1).2,(aj (aj k2).2).2⟩ (aV h8) (aj a8).1 (aj a8).2
def Rm(P:Pg)(m:Nat)(c:Ct)(e:Ex)(t:Expr):Lt:=⟨QW t,g7 P m (QZ c t) e (kid t 0),fG t,t.pos⟩
noncomputable def lamT(t:Expr):Expr:=.Call (.Name Str.empty p0) [t] [] p0
def Ro(P:Pg)(m:Nat)(c:Ct)(i ir:Nat)(e:Ex)(t:Expr):Bool:=qz P (m+1) c (.iU i ir [] e) (lamT t)
def Rp(P:Pg)(m:Nat)(c:Ct)(y:Str):List Ex->List Stmt->List Stmt
 | [],_=>[]
 |e::es,ss=>.Expr (.Call (.Attribute (.Name y (kid (kid (aF (sg ss 0) 0) 0) 0).pos) "append" (kid (aF (sg ss 0) 0) 0).pos) [(Rm P m c e (kid (aF (sg ss 0) 0) 1)).ex] [] (aF (sg ss 0) 0).pos) (sg ss 0).pos::Rp P m c y es ss.tail
def KY(P:Pg)(m:Nat)(c:Ct):List Ex->List Stmt->List Lt
 | [],_=>[]
 |e::es,ss=>Rm P m c e (kid (aF (sg ss 0) 0) 1)::KY P m c es ss.tail
def KZ(P:Pg)(m:Nat)(c:Ct)(i ir:Nat):List Ex->List Stmt->Bool
 | [],_=>true
 |e::es,ss=>(Ui (aF (sg ss 0) 0)&&Ro P m c i ir e (kid (aF (sg ss 0) 0) 1))&&KZ P m c i ir es ss.tail
theorem K1{P:Pg}{m:Nat}{c:Ct}{i ir:Nat}{y:Str}{es:List Ex}{ss:List Stmt}(h:KZ P m c i ir es ss=true):wC y (Rp P m c y es ss) (KY P m c es ss)/\lF (Cm P c) (se P i) i ir P.iV (KY P m c es ss) es/\(KY P m c es ss).length=es.length:=by
 induction es generalizing ss with
 |nil=>exact⟨.nil,.nil,rfl⟩
 |cons e es ih=>obtain⟨h1,h2⟩:=aj h;obtain⟨q1,q2,q3⟩:=ih h2;exact⟨.cons (aj h1).1 q1,.cons (Cm.mk (n:=m+1) (aj h1).2) q2,congrArg (· + 1) q3⟩
def Rq(P:Pg)(m:Nat)(c:Ct)(i:Nat)(y:Str)(op:CmpOp)(rhs:Ex)(t:Expr):Expr:=.Compare (.ListComp (.Call (.Name (se P i) (kid (kid (kid t 0) 0) 0).pos) [.Name (Rl (kid (kid t 0) 1)) (kid (kid (kid t 0) 0) 1).pos] [] (kid (kid t 0) 0).pos) [⟨.Name (Rl (kid (kid t 0) 1)) (kid (kid t 0) 1).pos,.Name y (kid (kid t 0) 2).pos,[],0⟩] (fG (kid t 0)) (kid t 0).pos) [op] [g7 P m c rhs (kid t 1)] t.pos
def cmK(P:Pg)(m:Nat)(c:Ct)(i:Nat)(op:CmpOp)(rhs:Ex)(t:Expr):Bool:=(bvK c (fG (kid t 0)) (Rl (kid (kid t 0) 1))&&(gJ (fG (kid t 0)) (Rl (kid (kid t 0) 1))&&(aY (Rl (kid (kid t 0) 1))&&decide ((fG (kid t 0)).names.lookup (se P i)=some .globalImplicit))))&&(qz P m c rhs (kid t 1)&&!behindInMarks op (g7 P m c rhs (kid t 1)))
def W3(P:Pg)(m:Nat)(c:Ct)(i:Nat)(y:Str)(op:CmpOp)(rhs:Ex)(fs:Sm->Stmt->Stmt)(ret:Bool)(b:List Sm)(t:Stmt):Stmt:=match ret with
 |true=>.Return (some (Rq P m c i y op rhs (aF t 0))) t.pos
 |false=>.If (Rq P m c i y op rhs (aF t 0)) (match b with |x::_=>[fs x (sg (Ai t) 0)] | []=>[]) [] t.pos
def Rr(ks:Sm->Stmt->Bool)(ret:Bool)(b:List Sm)(t:Stmt):Bool:=match ret with
 |true=>b.isEmpty
 |false=>(match b with |x::l=>l.isEmpty&&ks x (sg (Ai t) 0) | []=>false)
theorem K3{P:Pg}{m:Nat}{c:Ct}{i:Nat}{y:Str}{op:CmpOp}{rhs:Ex}{RS:Stmt->Sm->Prop}{fs:Sm->Stmt->Stmt}{ks:Sm->Stmt->Bool}(hs:∀{x t},ks x t=true->RS (fs x t) x){ret:Bool}{b:List Sm}{t:Stmt}(h:Rr ks ret b t=true):KJ RS (Rq P m c i y op rhs (aF t 0)) (W3 P m c i y op rhs fs ret b t) ret b:=by
 cases ret with
 |true=>rw[rZ h];exact .ret
 |false=>cases b with
  |nil=>cases h
  |cons x l=>obtain⟨h1,h2⟩:=aj (show (l.isEmpty&&ks x (sg (Ai t) 0))=true from h);rw[rZ h1];exact .ite (hs h2)
def Rt(P:Pg)(m:Nat)(fs:Sm->Stmt->Stmt)(c:Ct)(x:Sm)(ss:List Stmt):List Stmt:=match x with
 |.rows im it iy ia ib=>MT c im it iy ia ib ss
 |.calls ic xr op rhs ret b=>(match xr with
  |.refs i _ _ es=>(match es with
   |e::es=>.Assign [.Name (nm c ic) (aF (sg ss 0) 1).pos] (.List [(Rm P m c e (kid (aF (sg ss 0) 0) 0)).ex] (aF (sg ss 0) 0).pos) (sg ss 0).pos::(Rp P m c (nm c ic) es ss.tail++[W3 P m c i (nm c ic) op rhs fs ret b (sg ss (es.length+1))])
   | []=>ss)
  |_=>ss)
 |_=>ss
def Ru(P:Pg)(m:Nat)(ks:Sm->Stmt->Bool)(c:Ct)(x:Sm)(ss:List Stmt):Bool:=match x with
 |.rows im it iy ia ib=>M7 P c im it iy ia ib ss
 |.calls ic xr op rhs ret b=>(match xr with
  |.refs i ir ca es=>(match es with
   |e::es=>decide (ca=P.iV)&&((YC c ic&&kL c ic)&&(Ro P m c i ir e (kid (aF (sg ss 0) 0) 0)&&(decide (es.length<900)&&(KZ P m c i ir es ss.tail&&(cmK P m c i op rhs (aF (sg ss (es.length+1)) 0)&&Rr ks ret b (sg ss (es.length+1)))))))
   | []=>false)
  |_=>false)
 |_=>false
theorem Rv{P:Pg}{m:Nat}{RS:Stmt->Sm->Prop}{fs:Sm->Stmt->Stmt}{ks:Sm->Stmt->Bool}(hs:∀{x t},ks x t=true->RS (fs x t) x){c:Ct}{x:Sm}{ss:List Stmt}(h:Ru P m ks c x ss=true):Fe P (Cm P c) RS c (Rt P m fs c x ss) x:=by
 cases x
 case rows im it iy ia ib=>exact Fq h
 case calls ic xr op rhs ret b=>
  cases xr
  case refs i ir ca es=>
   cases es with
   |nil=>cases h
   |cons e es=>
    obtain⟨h1,a1⟩:=aj (show (decide (ca=P.iV)&&((YC c ic&&kL c ic)&&(Ro P m c i ir e (kid (aF (sg ss 0) 0) 0)&&(decide (es.length<900)&&(KZ P m c i ir es ss.tail&&(cmK P m c i op rhs (aF (sg ss (es.length+1)) 0)&&Rr ks ret b (sg ss (es.length+1))))))))=true from h);clear h;obtain rfl:=dec h1;obtain⟨h2,a2⟩:=aj a1;obtain⟨h3,a3⟩:=aj a2;obtain⟨h4,a4⟩:=aj a3;obtain⟨h5,a5⟩:=aj a4;obtain⟨h6,h7⟩:=aj a5;obtain⟨q1,q2,q3⟩:=K1 (y:=nm c ic) h5;obtain⟨k1,k2⟩:=aj (aj h6).1;obtain⟨k3,k4⟩:=aj (aj k1).2;exact .mk (dec (aj (aj h2).1).1) (aj (aj h2).1).2 (eH (aj h2).2).2.1 (eH (aj h2).2).2.2 q1 (.cons (Cm.mk (n:=m+1) h3) q2) (by rw[q3];exact dec h4)
     ⟨(dec (aj (aj k4).2).1).1,(aj k1).1,k3,iH (aj k4).1,(dec (aj (aj k4).2).1).2,(aj (aj k4).2).2,(aj k2).1,(aj (aj k2).2).1,dec (aj (aj k2).2).2⟩ (.mk (aj (aj h6).2).1) (rY (aj (aj h6).2).2) (K3 hs h7)
  all_goals exact nt h
 all_goals exact nt h
def W4(P:Pg)(m:Nat)(fs:Sm->Stmt->Stmt)(c:Ct)(x:Sm)(t:Stmt):Stmt:=match x with
 |.ret x=>.Return (some (g7 P (m+1) c x (aF t 0))) t.pos
 |.expr x=>.Expr (g7 P (m+1) c x (aF t 0)) t.pos
 |.set i x=>.Assign [.Name (nm c i) (aF t 1).pos] (g7 P (m+1) c x (aF t 0)) t.pos
 |.setC i x=>.Assign [.Name (nm c i) (aF t 1).pos] (g7 P (m+1) c x (aF t 0)) t.pos
 |.tgt T x=>.Assign [KR c T (aF t 1)] (g7 P (m+1) c x (aF t 0)) t.pos
 |.item i xj x=>.Assign [.Subscript (.Name (nm c i) (kid (aF t 1) 0).pos) (g7 P (m+1) c xj (kid (aF t 1) 1)) (aF t 1).pos] (g7 P (m+1) c x (aF t 0)) t.pos
 |.par i j a b=>.Assign [.Tuple [.Name (nm c i) (kid (aF t 1) 0).pos,.Name (nm c j) (kid (aF t 1) 1).pos] (r9 (aF t 1)) (aF t 1).pos] (.Tuple [g7 P (m+1) c a (kid (aF t 0) 0),g7 P (m+1) c b (kid (aF t 0) 1)] (r9 (aF t 0)) (aF t 0).pos) t.pos
 |.ite e a b=>.If (g7 P (m+1) c e (aF t 0)) (pK (Rt P m fs c) fs a (Ai t)) (pK (Rt P m fs c) fs b (YF t)) t.pos
 |.loop T it b=>.For (KR c T (aF t 0)) (Q7 (g7 P (m+1) c) it (aF t 1)) (pK (Rt P m fs c) fs b (Ai t)) [] t.pos
 |.while e b=>.While (g7 P (m+1) c e (aF t 0)) (pK (Rt P m fs c) fs b (Ai t)) [] t.pos
 |.raise i x=>.Raise (some (.Call (.Name (P.cls.getD i Str.empty) (kid (aF t 0) 0).pos) [g7 P (m+1) c x (kid (aF t 0) 1)] [] (aF t 0).pos)) none t.pos
 |_=>t
def W5(P:Pg)(m:Nat)(ks:Sm->Stmt->Bool)(c:Ct)(x:Sm)(t:Stmt):Bool:=match x with
 |.ret x=>qz P (m+1) c x (aF t 0)
 |.expr x=>qz P (m+1) c x (aF t 0)&&!Fp (λ_ _=>true) (g7 P (m+1) c x (aF t 0))
 |.set i x=>YC c i&&(qz P (m+1) c x (aF t 0)&&!Fp (λs p=>Ko c (nm c i) (aF t 1).pos p s) (g7 P (m+1) c x (aF t 0)))
 |.setC i x=>decide (c.N[i]?=some (nm c i))&&(Ko c (nm c i) (aF t 1).pos (aF t 0).pos (fG (aF t 0))&&(qz P (m+1) c x (aF t 0)&&(match x with
  |.comp _ _ _ _ _ _=>true
  |_=>false)))
 |.tgt T x=>(match T with |.tp is=>W0 (g7 P (m+1) c x (aF t 0))||EY c (KQ c (aF t 1) 0 is) (g7 P (m+1) c x (aF t 0)) |_=>false)&&(okN c T.ix&&(qz P (m+1) c x (aF t 0)&&!Fp (λ_ _=>true) (g7 P (m+1) c x (aF t 0))))
 |.item i xj x=>kL c i&&(qz P (m+1) c xj (kid (aF t 1) 1)&&(qz P (m+1) c x (aF t 0)&&!Fp (λ_ _=>true) (g7 P (m+1) c x (aF t 0))))
 |.par i j a b=>decide (c.N[i]?=some (nm c i)/\c.N[j]?=some (nm c j)/\i≠j)&&(Km c (nm c i) (nm c j) (kid (aF t 1) 0).pos (kid (aF t 1) 1).pos (g7 P (m+1) c a (kid (aF t 0) 0)) (g7 P (m+1) c b (kid (aF t 0) 1))&&(qz P (m+1) c a (kid (aF t 0) 0)&&qz P (m+1) c b (kid (aF t 0) 1)))
 |.ite e a b=>qz P (m+1) c e (aF t 0)&&(HJ (Ru P m ks c) ks a (Ai t)&&HJ (Ru P m ks c) ks b (YF t))
 |.loop T it b=>okN c T.ix&&(okW P c (qz P (m+1) c) it (aF t 1)&&HJ (Ru P m ks c) ks b (Ai t))
 |.while e b=>qz P (m+1) c e (aF t 0)&&HJ (Ru P m ks c) ks b (Ai t)
 |.raise i x=>decide (P.cls[i]?=some (P.cls.getD i Str.empty))&&(Uh c (P.cls.getD i Str.empty)&&qz P (m+1) c x (kid (aF t 0) 1))
 |.stuck=>true
 |_=>false
def M8(P:Pg)(m:Nat):Nat->Ct->Sm->Stmt->Stmt
 | 0=>λ_ _ t=>t
 |n+1=>λc=>W4 P m (M8 P m n c) c
def M9(P:Pg)(m:Nat):Nat->Ct->Sm->Stmt->Bool
 | 0=>λ_ _ _=>false
 |n+1=>λc=>W5 P m (M9 P m n c) c
def Br(P:Pg)(c:Ct)(s:Stmt)(x:Sm):Prop:=∃m n t,s=M8 P m n c x t/\M9 P m n c x t=true
abbrev vo (P:Pg) (c:Ct) (ss:List Stmt) (xs:List Sm):Prop:=oq (Fe P (Cm P c) (Br P c) c) (Br P c) ss xs
theorem Br.mk{P:Pg}{m n:Nat}{c:Ct}{x:Sm}{t:Stmt}(h:M9 P m n c x t=true):Br P c (M8 P m n c x t) x:=⟨m,n,t,rfl,h⟩
theorem vo.mk{P:Pg}{m n:Nat}{c:Ct}{xs:List Sm}{ss:List Stmt}(h:HJ (Ru P m (M9 P m n c) c) (M9 P m n c) xs ss=true):vo P c (pK (Rt P m (M8 P m n c) c) (M8 P m n c) xs ss) xs:=Rk (Rv .mk) .mk h
theorem noC{e:Expr}(h:(!Fp (λ_ _=>true) e)=true):∀a b s p,e≠.ListComp a b s p:=λa b s p q=>by rw[q]at h;cases h
theorem Br.out{P:Pg}{c:Ct}{s:Stmt}{x:Sm}(h:Br P c s x):jT P (Cm P c) (Br P c) c s x:=by
 obtain⟨m,n,t,rfl,h⟩:=h;cases n with
 |zero=>cases h
 |succ n=>
 replace h:W5 P m (M9 P m n c) c x t=true:=h;show jT P (Cm P c) (Br P c) c (W4 P m (M8 P m n c) c x t) x;cases x
 case ret x=>exact .ret (.mk h)
 case expr x=>exact .expr (.mk (aj h).1) (noC (aj h).2)
 case set i x=>have w:=(aj (aj h).2).2;exact .set (dec (aj (aj h).1).1) (aj (aj h).1).2 (.mk (aj (aj h).2).1) λa b s p q=>by rw[q]at w;exact rY w
 case setC i x=>
  obtain⟨h1,h2⟩:=aj h;clear h;obtain⟨h3,h4⟩:=aj h2;obtain⟨h5,h6⟩:=aj h4;cases x
  case comp n' kk T it co xe=>exact .setC (dec h1) h3 (.mk h5)
  all_goals exact Bool.noConfusion (show false=true from h6)
 case tgt T x=>
  obtain⟨h1,h2⟩:=aj h;clear h;obtain⟨h3,h4⟩:=aj h2;cases T with
  |nm i=>cases h1
  |tp is=>exact .tgt (wH h3) (.mk (aj h4).1) (((wS _ _).mp h1).imp (λh vs k p q=>by rw[q]at h;cases h) id) (noC (aj h4).2)
 case item i xj x=>exact .item (eH (aj h).1).1 (eH (aj h).1).2.1 (eH (aj h).1).2.2 (.mk (aj (aj h).2).1) (.mk (aj (aj (aj h).2).2).1) (noC (aj (aj (aj h).2).2).2)
 case par i j a b=>exact .par (dec (aj h).1).1 (dec (aj h).1).2.1 (dec (aj h).1).2.2 (aj (aj h).2).1 (.mk (aj (aj (aj h).2).2).1) (.mk (aj (aj (aj h).2).2).2)
 case ite e a b=>exact .ite (.mk (aj h).1) (vo.mk (aj (aj h).2).1) (vo.mk (aj (aj h).2).2)
 case loop T it b=>exact .loop (wH (aj h).1) (Fj (R:=Cm P c) .mk (aj (aj h).2).1) (vo.mk (aj (aj h).2).2)
 case «while» e b=>exact .while (.mk (aj h).1) (vo.mk (aj h).2)
 case raise i x=>exact .raise (dec (aj h).1) (dec (aj (aj h).2).1) (.mk (aj (aj h).2).2)
 case stuck=>exact .stuck
 all_goals exact nt h
noncomputable def Aj(e:Expr):Bool:=match e with
 |.Constant .. |.Name .. |.BinOp .. |.Compare .. |.UnaryOp .. |.BoolOp .. |.IfExp .. |.Tuple .. |.List .. |.Subscript .. |.Call .. |.JoinedStr .. |.ListComp .. |.Dict ..=>true
 |_=>false
theorem Cm.Aj{P:Pg}{c:Ct}{e:Expr}{x:Ex}(h:Cm P c e x):Aj e=true:=by
 obtain⟨n,t,rfl,h⟩:=h;cases n with
 |zero=>cases h
 |succ n=>
 replace h:ok1 P (g7 P n) (qz P n) c x t=true:=h;show Ev.Aj (Rh P (g7 P n) c x t)=true;cases x
 case val d=>show Ev.Aj (Fo d t)=true;unfold Fo;split <;> rfl
 case peek xe=>obtain⟨x,p,a,es,pos,e⟩:=uH (aj h).1;show Ev.Aj (g7 P n c xe t)=true;rw[e];rfl
 all_goals first |rfl |exact nt h
section
theorem Cm.star(h:Cm P c e x)(es:List Expr):starEach (e::es) env=(false,eval e env)::starEach es env:=by have hs:=h.Aj;cases e <;> first |rfl |exact Bool.noConfusion (show false=true from hs)
theorem jS.star(h:Bq P c es xs):starEach es env=es.map λe=>(false,eval e env):=by
 induction es generalizing xs with
 |nil=>rfl
 |cons e es ih=>
  cases h with
  |cons h1 h2=>rw[h1.star,ih h2];rfl
theorem jS.plain(h:Bq P c es xs):(backTo pos (starEach es env)).any (·.1)=false:=by
 rw[h.star];unfold backTo
 induction es generalizing xs with
 |nil=>rfl
 |cons e es ih=>
  cases h with
  |cons h1 h2=>rw[List.map_cons,List.map_cons,List.any_cons,ih h2];rfl
theorem Cm.folded(h:Cm P c e x)(y:Value):foldedSetIterable e env y=pure y:=by have hs:=h.Aj;cases e <;> first |rfl |exact Bool.noConfusion (show false=true from hs)
theorem rW.folded(h:CmI P c e x)(y:Value):foldedSetIterable e env y=pure y:=by
 cases h with
 |seq h=>exact h.folded y
 |cC _ _ _=>rfl
 |fF _ _ _ _=>rfl
 |zip _ _ _ _=>rfl
theorem Cm.K4(h:Cm P c e x):qY e:=by have hs:=h.Aj;cases e <;> first |exact λ_ _=>rfl |exact Bool.noConfusion (show false=true from hs)
end
structure jq(P:Pg)(rn:Rn):Prop where
 e:∀{X:Cx}{c:Ct}{z:Z}{k:Nat}{x:Ex}{e:Expr}{g g':G}{r:R},aX P k X c->z.K=X.K->Cm P c e x->rn.e z.bor k x g=some (r,g')->aB X z e g r g'
 t:∀{X:Cx}{c:Ct}{z:Z}{k:Nat}{x:Ex}{e:Expr}{g g':G}{b:Bool},aX P k X c->z.K=X.K->Cm P c e x->rn.t z.bor k x g=some (b,g')->cD X z e g b g'
 b:∀{X:Cx}{c:Ct}{z:Z}{k:Nat}{xs:List Sm}{jB:List Stmt}{g g':G}{f:Fl},aX P k X c->c.df=true->z.K=X.K->vo P c jB xs->rn.b z.bor k xs g=some (f,g')->dX X z jB g f g'
 g:∀{X:Cx}{c:Ct}{z:Z}{k:Nat}{f ir:Nat}{l:Lt}{ls:List Lt}{es:List Ex}{fx v:Str}{scope:Scope}{N':List Str}{kb j:Nat}{fp vp cp:Pos}{g g':G}{r:R},aX P k X c->z.K=X.K->lF (Cm P c) fx f ir P.iV (l::ls) es->WR c fx scope N' v kb j->rn.e z.bor k (.refs f ir P.iV es) g=some (r,g')->
  ∃ds,r=.new ds/\(∃q cc,n5 X iW q cc)/\(∀m∈l::ls,aM X.env.scope m.scope/\dZ m.params m.scope)/\dY (n6 X z g iW N' (X.N.length+j) scope (.Call (.Name fx fp) [.Name v vp] [] cp)) (l::ls) ds
theorem iI(h:jm N N' scope k=true):Names N N' scope k:=by
 unfold jm at h;simp only[eP,hU,mP,tP]at h;obtain⟨⟨h1,h2⟩,h3⟩:=h;refine⟨h1,λx e=>?_,λi x e hi=>?_⟩
 . rw[e]at h2;exact kA h2
 . have h4:=h3 i hi;rw[e]at h4;simp only[wS,eP,hU]at h4;exact h4
theorem iJ(ct:aX P k X c)(h:pI c.sc scope=true):aM X.env.scope scope:=by
 unfold pI at h;simp only[eP,hU,mP,wS]at h;obtain⟨h1,h2⟩:=h;refine⟨h1,λy hy=>(h2 y hy).1.1,λy hy e=>?_,λy hy e=>?_,λy hy e=>?_⟩
 . exact ((h2 y hy).1.2).elim (λq=>absurd e q) id
 . exact ((h2 y hy).2).elim (λq=>absurd e q) λq=>q.1
 . exact ((h2 y hy).2).elim (λq=>absurd e q) λq=>ct.fre _ q.2
theorem jr{X:Cx}{N':List Str}{scope:Scope}{b:Bk}{x:Str}:(X.blk N' scope b).env.scope.names.lookup x=(scope.names.lookup x).map λk=>if (k==NameKind.free&&X.env.scope.kind==.function&&X.env.kindOf x==some .cell)then NameKind.cell else k:=dU
theorem aX.blk{P:Pg}{k:Nat}{X:Cx}{c:Ct}{scope:Scope}{N':List Str}(ct:aX P k X c)(hnd:N'.Nodup)(b:Bk):aX P k (X.blk N' scope b) ⟨N',scope,false,Str.empty⟩:=by
 refine⟨rfl,hnd,λx e=>?_,λx e=>?_,λx e=>?_,λe=>absurd e ⋯,λx e=>?_,λe=>absurd e ⋯,ct.calm,rfl,ct.md,ct.room,λe=>absurd (show Str.empty=("law":Str)from e) ⋯⟩
 . have e':scope.names.lookup x=some .local:=e;rw[jr,e'];rfl
 . have e':scope.names.lookup x=some .globalImplicit:=e;show (X.blk N' scope b).env.scope.names.lookup x=_;rw[jr,e'];rfl
 .
  rw[jr];rcases e with e |e
  . have e':scope.names.lookup x=some .cell:=e;rw[e'];exact .inl rfl
  .
   have e':scope.names.lookup x=some .free:=e;rw[e',AY];by_cases hq:(NameKind.free==NameKind.free&&X.env.scope.kind==.function&&X.env.kindOf x==some .cell)=true
   . rw[fN hq];exact .inl rfl
   . rw[fR hq];exact .inr rfl
 .
  rcases e with e |e
  . cases e
  . have e':scope.names.lookup x=some .local:=e;show (scope.names.lookup x==some .local)=true;rw[e'];rfl
section
theorem bq(h:aB X z e g r g'):aB X z e g (norm r) g':=by
 cases r with
 |dat d=>exact h
 |new l=>exact nh h
 |var i=>exact h
theorem Ft(h:aB X z e g r g1)(hd:toD z.bor r g1=some (d,g')):aB X z e g (.dat d) g':=by
 cases r with
 |dat d'=>cases hd;exact h
 |new l=>cases hd;exact nh h
 |var i=>
  have hd:(if i∈z.bor then none else match g1[i]? with |some (.own l)=>some (D.lst l,g1.set i (.dat (.lst l))) |_=>none)=some (d,g'):=hd
  split at hd
  . cases hd
  .
   rename_i hb;split at hd
   . rename_i l hg;cases hd;exact zp h hg hb
   . cases hd
theorem bh(hS:jq P rn)(ct:aX P k X c)(hK:z.K=X.K)(hc:Cm P c e x)(h:gP rn z.bor k x g=some (d,g')):aB X z e g (.dat d) g':=by
 unfold gP at h;split at h
 . rename_i r g1 e1;exact Ft (hS.e ct hK hc e1) h
 . cases h
theorem oz:∀(ds:List D),tL (ds.map R.dat)=some ds
 | []=>rfl
 |d::ds=>by
  show (match tL (ds.map R.dat)with |some ds=>some (d::ds) |none=>none)=_
  rw[oz ds]
theorem g8(hS:jq P rn)(ct:aX P k X c)(hK:z.K=X.K):∀{es:List Expr}{xs:List Ex}{g g':G}{ds:List D},Bq P c es xs->lE rn z.bor k xs g=some (ds,g')->cQ X z es g (ds.map .dat) g'
 |_,_,_,_,_,.nil,h=>by cases h;exact ez
 |_,_,_,_,_,.cons h1 h2,h=>by
  unfold lE at h;split at h
  .
   rename_i d g1 e1;split at h
   . rename_i ds g2 e2;cases h;exact dW (bh hS ct hK h1 e1) (g8 hS ct hK h2 e2) (h1.star _)
   . cases h
  . cases h
theorem jU(hS:jq P rn)(ct:aX P k X c)(hK:z.K=X.K):∀{es:List Expr}{xs:List Ex}{g g':G}{rs:List R},Bq P c es xs->argsR rn z.bor k xs g=some (rs,g')->cQ X z es g rs g'
 |_,_,_,_,_,.nil,h=>by cases h;exact ez
 |_,_,_,_,_,.cons h1 h2,h=>by
  unfold argsR at h;split at h
  .
   rename_i r g1 e1;split at h
   .
    rename_i rs g2 e2;cases h;have q:=bq (hS.e ct hK h1 e1);have q2:=jU hS ct hK h2 e2;cases r with
    |dat d=>exact dW q q2 (h1.star _)
    |new l=>exact dW q q2 (h1.star _)
    |var i=>exact Cz q q2 (h1.star _)
   . cases h
  . cases h
theorem iK(h:argsR rn bor k [a,b] g=some (rs,g2)):∃r1 r2 g1,rn.e bor k a g=some (r1,g1)/\rn.e bor k b g1=some (r2,g2)/\rs=[norm r1,norm r2]:=by
 unfold argsR at h;split at h
 .
  rename_i r1 g1 e1;unfold argsR at h;split at h
  .
   rename_i rs' g3 e3;split at e3
   . rename_i r2 g4 e2;unfold argsR at e3;cases e3;cases h;exact⟨r1,r2,g1,e1,e2,rfl⟩
   . cases e3
  . cases h
 . cases h
theorem wI(hS:jq P rn)(ct:aX P k X c)(hK:z.K=X.K):∀{bs:List Expr}{xs:List Ex}{ops:List CmpOp}{g g':G}{d1:D}{b:Bool},Bq P c bs xs->Bo rn z.bor k d1 ops xs g=some (b,g')->rG X z d1 ops bs g b g'
 |_,_,[],_,_,_,_,.nil,h=>by cases h
 |_,_,[_],_,_,_,_,.nil,h=>by unfold Bo at h;cases h
 |_,_,_::_::_,_,_,_,_,.nil,h=>by unfold Bo at h;cases h
 |_,_,[],_,_,_,_,.cons _ _,h=>by unfold Bo at h;cases h
 |_,_,[op],_,_,d1,_,.cons h1 .nil,h=>by
  unfold Bo at h;split at h
  .
   rename_i d2 g1 e1;split at h
   . rename_i b e2;cases h;exact .last (bh hS ct hK h1 e1) (jl hK ct.room e2)
   . cases h
  . cases h
 |_,_,op::op'::ops,_,_,d1,_,.cons h1 .nil,h=>by unfold Bo at h;cases h
 |_,_,[op],_,_,d1,_,.cons h1 (.cons h2 h3),h=>by unfold Bo at h;cases h
 |_,_,op::op'::ops,_,_,d1,_,.cons h1 (.cons h2 h3),h=>by
  unfold Bo at h;split at h
  .
   rename_i d2 g1 e1;split at h
   . rename_i e2;exact .link (bh hS ct hK h1 e1) (jl hK ct.room e2) (wI hS ct hK (.cons h2 h3) h)
   . rename_i e2;cases h;exact .stop (bh hS ct hK h1 e1) (jl hK ct.room e2)
   . cases h
  . cases h
theorem yC(hS:jq P rn)(ct:aX P k X c)(hK:z.K=X.K):∀{es:List Expr}{xs:List Ex}{g g':G}{r:R},Bq P c es xs->Ew rn z.bor k xs g=some (r,g')->aB X z (.BoolOp .And es pos) g r g'
 |_,_,_,_,_,.nil,h=>by cases h
 |_,_,_,_,_,.cons h1 .nil,h=>Cy (hS.e ct hK h1 h)
 |_,_,_,_,_,.cons h1 (.cons h2 h3),h=>by
  unfold Ew at h;split at h
  . rename_i g1 e1;exact IV (hS.e ct hK h1 e1) (yC hS ct hK (.cons h2 h3) h)
  . rename_i g1 e1;cases h;exact IK (hS.e ct hK h1 e1)
  . cases h
theorem Fv(hS:jq P rn)(ct:aX P k X c)(hK:z.K=X.K):∀{es:List Expr}{xs:List Ex}{g g':G}{r:R},Bq P c es xs->Wv rn z.bor k xs g=some (r,g')->aB X z (.BoolOp .Or es pos) g r g'
 |_,_,_,_,_,.nil,h=>by cases h
 |_,_,_,_,_,.cons h1 .nil,h=>Cy (hS.e ct hK h1 h)
 |_,_,_,_,_,.cons h1 (.cons h2 h3),h=>by
  unfold Wv at h;split at h
  . rename_i g1 e1;exact O8 (hS.e ct hK h1 e1) (Fv hS ct hK (.cons h2 h3) h)
  . rename_i g1 e1;cases h;exact O7 (hS.e ct hK h1 e1)
  . cases h
theorem uI(hS:jq P rn)(ct:aX P k X c)(hK:z.K=X.K):∀{es:List Expr}{xs:List Ex}{g g':G}{b:Bool},Bq P c es xs->uB rn z.bor k xs g=some (b,g')->lM X z (.BoolOp .And es pos) g b g'
 |_,_,_,_,_,.nil,h=>by cases h
 |_,_,_,_,_,.cons h1 .nil,h=>Iv (hS.t ct hK h1 h)
 |_,_,_,_,_,.cons h1 (.cons h2 h3),h=>by
  unfold uB at h;split at h
  . rename_i g1 e1;exact Iz (hS.t ct hK h1 e1) (uI hS ct hK (.cons h2 h3) h)
  . rename_i g1 e1;cases h;exact Iw (hS.t ct hK h1 e1)
  . cases h
theorem yD(hS:jq P rn)(ct:aX P k X c)(hK:z.K=X.K):∀{es:List Expr}{xs:List Ex}{g g':G}{b:Bool},Bq P c es xs->Ey rn z.bor k xs g=some (b,g')->lM X z (.BoolOp .Or es pos) g b g'
 |_,_,_,_,_,.nil,h=>by cases h
 |_,_,_,_,_,.cons h1 .nil,h=>O4 (hS.t ct hK h1 h)
 |_,_,_,_,_,.cons h1 (.cons h2 h3),h=>by
  unfold Ey at h;split at h
  . rename_i g1 e1;exact O6 (hS.t ct hK h1 e1) (yD hS ct hK (.cons h2 h3) h)
  . rename_i g1 e1;cases h;exact O5 (hS.t ct hK h1 e1)
  . cases h
theorem uJ(hS:jq P rn)(ct:aX P k X c)(hK:z.K=X.K)(hc:CmO P c e x)(h:yt rn z.bor k x g=some (o,g')):rH X z e g o g':=by
 cases hc with
 |none=>cases h;exact zE
 |@some e' x' hc=>
  have h:(match gP rn z.bor k x' g with |some (.int i,g1)=>some (some i,g1) |_=>none)=some (o,g'):=h
  split at h
  . rename_i e1;cases h;exact zF (bh hS ct hK hc e1)
  . cases h
theorem Fw(ct:aX P k X c)(h:c.sc.names.lookup x=some .globalImplicit):Gl X x:=ct.jA x h
theorem Fy(hS:jq P rn)(ct:aX P k X c)(hK:z.K=X.K)(htp:tp=true->∃es k pos,tg=.Tuple es k pos)(hc:CmI P c iter it)(h:fX rn z.bor k tp it g=some (items,g')):jj X z tg iter g items g':=by
 cases hc with
 |zip ha ha2 hb hg=>
  unfold fX at h;dsimp only at h;split at h
  .
   rename_i ht;obtain⟨es,k0,pos,rfl⟩:=htp ht;split at h
   .
    rename_i d1 d2 g1 e1;split at h
    .
     rename_i l m e2 e3;split at h
     . rename_i e4;cases h;exact Qt hK (g8 hS ct hK (.cons ha (.cons ha2 .nil)) e1) e2 e3 e4 (Fw ct hg) (ct.md.bn _ hb) (ha.star _) (by rw[ha2.star];rfl)
     . cases h
    . cases h
   . cases h
  . cases h
 |cC ha hb hg=>
  unfold fX at h;dsimp only at h;split at h
  .
   rename_i j g1 e1;split at h
   . rename_i hj;cases h;simp only[Kf,eP,hU]at hj;exact Jl (dW (bh hS ct hK ha e1) ez (ha.star _)) (Fw ct hg) (ct.md.bn _ hb) (by rw[ha.star];rfl) hj.1 hj.2
   . cases h
  . cases h
 |fF ha hb' hb hg=>
  unfold fX at h;dsimp only at h;split at h
  .
   rename_i c0 g1 e1;split at h
   .
    rename_i j g2 e2;split at h
    . rename_i hj;cases h;simp only[Kf,eP,hU]at hj;exact Jm (dW (bh hS ct hK ha e1) (dW (bh hS ct hK hb' e2) ez (hb'.star _)) (ha.star _)) (Fw ct hg) (ct.md.bn _ hb) (by rw[ha.star,hb'.star];rfl) (by rw[hb'.star];rfl) ⟨hj.1.1,hj.1.2,hj.2.1,hj.2.2⟩
    . cases h
   . cases h
  . cases h
 |seq hc=>
  have h':(match gP rn z.bor k it g with |some (.tup l,g1)=>some (l,g1) |some (.lst l,g1)=>some (l,g1) |some (.fix l,g1)=>some (l,g1) |_=>none)=some (items,g'):=by cases hc.out <;> exact h
  split at h'
  . rename_i e1;cases h';exact P6 hK (bh hS ct hK hc e1)
  . rename_i e1;cases h';exact P7 (bh hS ct hK hc e1)
  . rename_i e1;cases h';exact P8 hK (bh hS ct hK hc e1)
  . cases h'
theorem Fz(hS:jq P rn)(ct:aX P k X c)(hK:z.K=X.K)(hc:Ri P c ifs co)(h:Bp rn z.bor k co g=some (b,g')):iZ X z ifs g b g':=by
 cases hc with
 |none=>cases h;exact Jo
 |some hc=>exact Jp (hS.t ct hK hc h)
theorem Nb(h:Kl c tg T):T.kJ=true->∃es k pos,tg=.Tuple es k pos:=by
 cases h with
 |nm _ _=>intro e;cases e
 |tp _=>intro _;exact⟨_,_,_,rfl⟩
theorem Rx(ct:aX P k X c)(h:Ae c es is):jO X es is:=by
 induction h with
 |nil=>exact .nil
 |cons h1 h2 _ ih=>exact .cons (ct.nm h1 h2) ih
theorem FG(ct:aX P k X c)(hK:z.K=X.K)(h:Kl c tg T)(hb:∀i∈T.ix,i∉z.bor):tT X z tg T:=by
 cases h with
 |nm h1 h2=>exact VF (ct.nm h1 h2) (hb _ (gN.mpr rfl))
 |tp h1=>exact VG ct.calm hK (Rx ct h1) hb
theorem wJ(hS:jq P rn){Xb:Bk->Cx}{cb:Ct}(W6:∀b,aX P k (Xb b) cb)(Mv:∀b,z.K=(Xb b).K){T:Tg}{last:Nat}{ifs:List Expr}{co:Option Ex}{fM:Expr}{xe:Ex}(hi:Ri P cb ifs co)(he:Cm P cb fM xe) :
  ∀{items:List D}{g gE:G},Ad rn z.bor k T last co xe items g=some gE->lO T last (λg b g'=>∀bk:Bk,iZ (Xb bk) z ifs g b g') (λg d g'=>∀bk:Bk,aB (Xb bk) z fM g (.dat d) g') items g gE
 | [],_,_,h=>by cases h;exact .nil
 |d::l,_,_,h=>by
  unfold Ad at h;split at h
  . cases h
  .
   rename_i g1 e1;split at h
   . cases h
   . rename_i g2 e2;exact .skip e1 (λbk=>Fz hS (W6 bk) (Mv bk) hi e2) (wJ hS W6 Mv hi he h)
   .
    rename_i g2 e2;split at h
    . cases h
    .
     rename_i x g3 e3;split at h
     .
      rename_i acc e4;split at h
      . rename_i hl;exact .take e1 (λbk=>Fz hS (W6 bk) (Mv bk) hi e2) (λbk=>bh hS (W6 bk) (Mv bk) he e3) e4 hl (wJ hS W6 Mv hi he h)
      . cases h
     . cases h
end
def jd(P:Pg)(mg:Str->Option Value)(ci:Nat)(C:Addr):Prop:=∃x,P.cls[ci]?=some x/\mg x=some (.ref C)
structure K5(P:Pg)(k:Nat)(X:Cx)(c:Ct):Prop where
 ct:aX P k X.kZ c
 ex:X.ex=[]
 pa:PassesOwn (model X.prog X.w) X.A X.env X.xe
structure kM(P:Pg)(rn:Rn):Prop where
 x:∀{X:Cx}{c:Ct}{z:Z}{k:Nat}{x:Ex}{e:Expr}{g g':G}{ci:Nat}{C:Addr},K5 P k X c->z.K=X.K->jd P X.mg ci C->Cm P c e x->rn.x z.bor k x g=some (ci,g')->Dr X z e g C g'
 t:∀{X:Cx}{c:Ct}{z:Z}{k:Nat}{x:Ex}{e:Expr}{g g':G}{ci:Nat}{C:Addr},K5 P k X c->z.K=X.K->jd P X.mg ci C->Cm P c e x->rn.xt z.bor k x g=some (ci,g')->T3 X z e g C g'
 b:∀{X:Cx}{c:Ct}{z:Z}{k:Nat}{xs:List Sm}{jB:List Stmt}{g g':G}{ci:Nat}{C:Addr},K5 P k X c->c.df=true->z.K=X.K->jd P X.mg ci C->vo P c jB xs->rn.xb z.bor k xs g=some (ci,g')->JC X z jB g C g'
structure K6(P:Pg)(fi:Fi)(fx:Fx):Prop where
 np:fx.np=fi.ps.length
 n:fx.n=fi.N.length
 body:vo P ⟨fi.N,aD fi.st,true,fi.qual⟩ (bA fi.st) fx.body
def fH(P:Pg)(fns:List Fx):Prop:=∀(f:Nat) (fi:Fi) (fx:Fx),P.fn[f]?=some fi->fns[f]?=some fx->K6 P fi fx
theorem oA{P:Pg}{k:Nat}{prog:Program}{w:World}{K:Frag}{mg:Str->Option Value}{base:Heap}{N ps:List Str}{qual:Str}{scope:Scope}{f:Addr}{bE:Value}{A:Around}{outer:List Env}{s:Shared}{H:Hp}{E:XK}
  (S:bV N ps scope) (md:rT P K mg) (bI:PySem.W.codeIn K bE qual=true) (hr:cG k (A.deeper (envOfC qual scope s⁻¹ f bE))):aX P k (eZ sP prog w K mg base N qual scope f bE A outer s H E).kZ ⟨N,scope,true,qual⟩:=by
 refine⟨rfl,S.nd,λx e=>e,λx e=>e,λx e=>e,λ_ x e=>e,λx _=>rfl,λ_=>?_,rfl,rfl,md,hr,λe h=>⟨by have e:qual = "law" :=e;subst e;rfl,md.lam h _ (by have e:qual = "law" :=e;exact e▸bI)⟩⟩
 show (if scope.kind.isAnnotationScope then ScopeKind.function else scope.kind)=.function
 rw[S.kind];rfl
section
theorem FH(hS:jq P rn){k':Nat}(ct:aX P (k'+1) X c)(hK:z.K=X.K){f:Nat}{fi:Fi}{fx:Fx}(W7:P.fn[f]?=some fi)(sO:K6 P fi fx)(yj:c.sc.names.lookup fi.name=some .globalImplicit){e:Expr}{es:List Expr}{xs:List Ex}{rs:List R}{g g1 gO:G}{r:R}
  (hc:Bq P c (e::es) xs) (ha:cQ X z (e::es) g rs g1) (h:aI rn fx k' rs g1=some (r,gO)):aB X z (.Call (.Name fi.name p) (e::es) [] pos) g r gO:=by
 obtain⟨f,fd,hm,hF,Ry,hB,je⟩:=ct.md.fn _ fi W7;have F:iO X.prog X.w X.K X.mg X.base sP (k'+1) f fd fi.ps (Jk X.K fi.N fi.ps.length λbor g r g'=>rn.b bor k' fx.body g=some (.rt r,g')\/(rn.b bor k' fx.body g=some (.nx,g')/\r=.dat .non)):=by
  refine xX hF Ry λbE A outer s H E bI hr z' g r g' T8 hrun=>?_
  have W8:aX P k' (eZ sP X.prog X.w X.K X.mg X.base fi.N fi.qual (aD fi.st) f bE A outer s H E).kZ ⟨fi.N,aD fi.st,true,fi.qual⟩:=oA Ry ct.md bI hr;rcases hrun with h |⟨h,rfl⟩
  . exact⟨_,hS.b W8 rfl T8 sO.body h,.inl rfl⟩
  . exact⟨_,hS.b W8 rfl T8 sO.body h,.inr ⟨rfl,rfl⟩⟩
 have h1:∃h2:Bq P c es xs.tail,starEach (e::es) X.env=(false,eval e X.env)::starEach es X.env:=by
  cases hc with
  |cons h1 h2=>exact⟨h2,h1.star _⟩
 obtain⟨h2,dj⟩:=h1;unfold aI at h;split at h
 .
  rename_i hl;split at h
  . cases h
  .
   rename_i gs e1;split at h
   .
    rename_i r0 gc e2;split at h
    .
     rename_i gO' e3;split at h
     . rename_i r' e4;cases h;exact xW F hK ct.room (ct.jA _ yj) hm hF.kp hB ha (by rw[hl.1,sO.np]) e1 hl.2 (.inl (by rw[<- sO.n];exact e2)) e3 e4 je dj h2.plain
     . cases h
    . cases h
   .
    rename_i gc e2;split at h
    . rename_i gO' e3;cases h;exact xW F hK ct.room (ct.jA _ yj) hm hF.kp hB ha (by rw[hl.1,sO.np]) e1 hl.2 (.inr ⟨by rw[<- sO.n];exact e2,rfl⟩) e3 rfl je dj h2.plain
    . cases h
   . cases h
 . cases h
theorem uK(hS:jq P rn)(ct:aX P k X c)(hK:z.K=X.K)
  (hnd:N'.Nodup) (hT:Kl ⟨N',scope,false,Str.empty⟩ tg T) (Uj:∀i∈T.ix,c.N.length<=i/\i<c.N.length+kk) (hi:CmI P c iter it) (hf:Ri P ⟨N',scope,false,Str.empty⟩ ifs co) (he:Cm P ⟨N',scope,false,Str.empty⟩ fM xe)
  (h:bZ rn z.bor k c.N.length kk T it co xe g=some (acc,g')) :
  ∃items g1 gE,jj X z tg iter g items g1/\(∀b:Bk,tT (X.blk N' scope b) z tg T)/\(∀i∈T.ix,g1.length<=i/\i<g1.length+kk)/\
   lO T (g1.length+kk) (λg b g'=>∀bk:Bk,iZ (X.blk N' scope bk) z ifs g b g') (λg d g'=>∀bk:Bk,aB (X.blk N' scope bk) z fM g (.dat d) g') items (gC kk g1) gE/\gE[g1.length+kk]?=some (.own acc)/\g'=gE.take g1.length:=by
 unfold bZ at h;split at h
 . cases h
 .
  rename_i items g1 e1;split at h
  .
   rename_i hl;split at h
   . cases h
   .
    rename_i gE e2;split at h
    .
     rename_i acc' e3;cases h;obtain⟨hl,hb⟩:=hl;rw[<- hl]at e2 e3 Uj ⊢
     refine⟨items,g1,gE,Fy hS ct hK (Nb hT) hi e1,λb=>FG (ct.blk hnd b) hK hT λi hi hm=>?_,Uj,wJ hS (λb=>ct.blk hnd b) (λb=>hK) hf he e2,e3,rfl⟩
     rw[List.any_eq_false]at hb;exact hb i hi (u8 hm)
    . cases h
  . cases h
end
theorem K7{P:Pg}{c:Ct}{er y ke en HF:Str}{z7 np T7 py aU oV kp uy ux bH oW iA:Pos}{j:Nat}{rest:List Stmt}{bd:List Sm}(h:vo P c (.Assign [.Name er z7] (.Constant .none j np) T7::Ek y ke en HF py aU oV kp uy ux bH oW iA::rest) bd):vo P c rest (bd.drop 2):=by
 have nog:∀{s:Stmt}{ss:List Stmt}{x:Sm}{r:List Stmt},Fe P (Cm P c) (Br P c) c ss x->ss++r=s::rest->(∀a b p,s≠.Assign a b p)->False:=λg e n=>by
  cases g <;> (injection e with e1 e2;exact n _ _ _ e1.symm)
 generalize hq:(Stmt.Assign [.Name er z7] (.Constant .none j np) T7::Ek y ke en HF py aU oV kp uy ux bH oW iA::rest)=jB at h;cases h with
 |nil=>cases hq
 |grp g _=>cases g <;> (injection hq with e1 e2;injection e1 with e3 e4;cases e4)
 |cons _ h1=>
  injection hq with e1 e2;generalize hq2:(Ek y ke en HF py aU oV kp uy ux bH oW iA::rest)=aL at e2;subst e2;cases h1 with
  |nil=>cases hq2
  |grp g _=>exact (nog g hq2.symm (λa b p e=>nomatch e)).elim
  |cons _ h2=>injection hq2 with e1 e2;subst e2;exact h2
section
variable{X:Cx}{c:Ct}
theorem FJ(ct:aX P k X c){es:List Expr}{ns:List String}(h:wG P c es ns):nO X es ns/\∀n∈ns,n∈pH:=by
 induction h with
 |nil=>exact⟨.nil,λn hn=>nomatch hn⟩
 |@cons T n pos es ns h1 h2 h3 h4 _ ih=>
  refine⟨.cons ?_ ih.1,λm hm=>(d0.mp hm).elim (λe=>e▸h4) (ih.2 m)⟩
  subst h3;refine⟨ct.jA _ h2,ct.md.bn _ h1,?_,?_,?_⟩ <;> (unfold pH at h4;simp only[d0,mE,AI]at h4;rcases h4 with rfl |rfl |rfl |rfl |rfl |rfl <;> first |rfl |decide)
theorem Rz{e:Expr}{g g1:G}{r:R}{d:D}(h:aB X z e g r g1)(hp:pk r g1=some d)(hs:starEach [e] X.env=(false,eval e X.env)::starEach [] X.env):cQ X z [e] g [r] g1:=by
 cases r with
 |dat d=>exact dW h ez hs
 |new l=>cases hp
 |var i=>exact Cz h ez hs
theorem wK{e:Expr}{x:Ex}{aU:Pos}(hc:Cm P c e x):((backTo aU (starEach [e] X.env)).all (λx=>!x.1)&&(backToKw aU (keywordEach [] X.env)).all (λx=>x.1.isSome)
   && decide ([e].length+([]:List Keyword).length+(if ([]:List Keyword).isEmpty then 0 else 1)<30))=true:=by
 rw[hc.star];rfl
theorem yE(hS:jq P rn)(hX:kM P rn){fns:List Fx}(hF:fH P fns){k':Nat}{Y:Cx}(md:rT P Y.K Y.mg)(hr:cG (k'+2) Y.A)(hcm:Y.calm=true)(hKY:z.K=Y.K)(Iq:c.N.Nodup)(hN:X.N=c.N){f ir:Nat}{fi:Fi}{l:Lt}{xb:Ex}{g Ej g3:G}{r0 r':R}{fx:Fx}{ci:Nat}{C:Addr}
  (h1:P.fn[f]?=some fi) (h5:P.lam=true) (h6:Fd fi ir P.kt=true) (h8:Ag l.params l.scope=true) (h9:Cm P ⟨c.N,l.scope,false,Str.empty⟩ l.body xb)
  (e1:fns[f]?=some fx) (e2:rn.x [] k' xb (g.map noOwn)=some (ci,Ej)) (e3:P.iV[ci]?=some C) (e4:rn.b [] k' (fx.body.drop 2) ((List.replicate fx.n .no).set ir (.dat (.lq C)))=some (.rt r0,g3)) (e5:cV [] g3 r0=some r') {fa:Addr}{fd:FuncData} (F:Hs Y.K fi.name fi.qual fi.st fa fd) (Sc:bV fi.N fi.ps (aD fi.st)) (bd:L2.Binds Y.K fd fi.ps []):wm Y X z g iW l r' fa:=by
 have sO:=hF f fi fx h1 e1;obtain⟨xC,c1,c2,qC,kC⟩:=md.iV ci C e3;obtain⟨dk,D,mD,qD,hup⟩:=md.kt h5;have L:=rX h8;unfold Fd at h6;split at h6
 .
  rename_i er y ke en HF MN hv;obtain⟨z7,j,np,T7,py,aU,oV,kp,uy,ux,bH,oW,iA,rest,dj⟩:=KH hv;obtain⟨p1,p2⟩:=aj h6;obtain⟨⟨q1,q2,q3,q4⟩,⟨q5,q6,q7⟩,⟨q8,q9⟩,q10,q11,q12⟩:=dec p1;subst q1 q2 q3;obtain⟨p3,p4⟩:=aj p2;have pe:=bD (aj p3).1;have py':=bD (aj p3).2;have vy:gR (aD fi.st) y:=by
   have:=(aj p4).1;unfold gJ at this;split at this
   . rename_i e;exact .inl e
   . rename_i e;exact .inr (.inl e)
   . rename_i e;exact .inr (.inr e)
   . cases this
  have lr:Loc (aD fi.st) HF:=by
   have:=(aj p4).2;unfold eG at this;split at this
   . rename_i e;exact .inl e
   . rename_i e;exact .inr e
   . cases this
  have hb:=sO.body;rw[dj]at hb;have hrs:vo P ⟨fi.N,aD fi.st,true,fi.qual⟩ rest (fx.body.drop 2):=K7 hb;intro ah σ1 σ0 H1 s1 g1 As A0 M p c' cl pm gK us Q E I1 S1 hp1 hc1 Cl0 Wn rv hQ;refine Qx (k:=k') (C:=C) (D:=D) (y:=y) (ke:=P.kt) (en:=MN) (er:=HF) (ie:=fi.N.idxOf MN) (ir:=ir) (Ej:=Ej) (g3:=g3) (r:=r0) (N:=X.N) hKY hr hcm F dj (q4▸Sc) (q4▸bd)
   ⟨Sc.nd,q5,mD,dk,qC,qD,hup C (i8 e3),kC,q6,q7,pe.1,pe.2,q8,lr,q9,vy,py'.1,py'.2,q10,q11,q12⟩ L (λXf s H xe zl a1 a2 a3 a4 a5 hr hc hp hzK hzb=>?_) (λbE A outer s H E bI hr zf hzK hzb=>?_) e5 I1 S1 hp1 hc1 Cl0 Wn.noOwn (λi l e=>z6 e) rv hQ
  .
   have hci:jd P (ur Xf X.N iW l.scope p (.ref c') cl s H xe).mg ci C:=⟨xC,c1,a4▸c2⟩;refine hX.x (c:=⟨c.N,l.scope,false,Str.empty⟩) ⟨⟨hN,Iq,λx e=>e,λx e=>e,λx e=>e,(λe=>nomatch e),λx e=>?_,(λe=>nomatch e),rfl,rfl,?_,hr.deeper _,λe=>absurd (show Str.empty=("law":Str)from e) ⋯⟩,rfl,hp⟩ (hzK.trans a3.symm) hci h9 (by rw[hzb];exact e2)
   .
    rcases e with e |e
    . cases e
    . exact absurd rfl (L.nl _ (L2.mem_of_lookup e))
   . show rT P Xf.K Xf.mg;rw[a3,a4];exact md
  .
   have e4':rn.b zf.bor k' (fx.body.drop 2) ((List.replicate fi.N.length .no).set ir (.dat (.lq C)))=some (.rt r0,g3):=by rw[hzb,<- sO.n];exact e4
   exact hS.b (oA Sc md bI hr) rfl hzK hrs e4'
 . cases h6
theorem Nc(ct:aX P k X c)(h4:c.q = "law")(h5:P.lam=true):∃q cc,n5 X iW q cc:=by obtain⟨hqn,cc,q,hcode,hC,hq,hbi,Wc⟩:=ct.lam h4 h5;exact⟨q,cc,hq,λp hp _=>zo hp,hcode,hC,hqn,hbi,Wc⟩
theorem K8(hS:jq P rn)(hX:kM P rn){fns:List Fx}(hF:fH P fns){k':Nat}(ct:aX P (k'+2) X c)(hK:z.K=X.K){x:Str}{f ir:Nat}{fi:Fi}{params:Arguments}{body:Expr}{scope:Scope}{xb:Ex}{fp Ah pos:Pos}{g Ej g3:G}{r0 r':R}{fx:Fx}{ci:Nat}{C:Addr}
  (h1:P.fn[f]?=some fi) (h2:fi.name=x) (h3:c.sc.names.lookup x=some .globalImplicit) (h4:c.q = "law") (h5:P.lam=true) (h6:Fd fi ir P.kt=true) (h7:pI c.sc scope=true) (h8:Ag params scope=true) (h9:Cm P ⟨c.N,scope,false,Str.empty⟩ body xb)
  (e1:fns[f]?=some fx) (e2:rn.x [] k' xb (g.map noOwn)=some (ci,Ej)) (e3:P.iV[ci]?=some C) (e4:rn.b [] k' (fx.body.drop 2) ((List.replicate fx.n .no).set ir (.dat (.lq C)))=some (.rt r0,g3)) (e5:cV [] g3 r0=some r') :
  aB X z (.Call (.Name x fp) [.Lambda params body scope Ah] [] pos) g r' g:=by
 obtain⟨fa,fd,m1,F,Sc,bd,db⟩:=ct.md.fn f fi h1;obtain⟨q,cc,mk⟩:=Nc ct h4 h5;subst h2;exact J8 (l:=⟨params,body,scope,Ah⟩) hK F (ct.jA _ h3) m1 db mk (iJ ct h7) (rX h8) (yE hS hX hF ct.md ct.room ct.calm hK ct.nd ct.N h1 h5 h6 h8 h9 e1 e2 e3 e4 e5 F Sc bd)
theorem K9(hS:jq P rn)(hX:kM P rn){fns:List Fx}(hF:fH P fns)(ct:aX P k X c)(hK:z.K=X.K){f ir:Nat}{fx v:Str}{scope:Scope}{N':List Str}{kb j:Nat}{fp vp cp:Pos}{g:G}(B:WR c fx scope N' v kb j){l:Lt}{e:Ex}{d:D}(hc:Cm P c (.Call (.Name fx p0) [l.ex] [] p0) (.iU f ir [] e))(ed:QG rn k fns f ir P.iV e g=some d) :
  ((∃q cc,n5 X iW q cc)/\aM X.env.scope l.scope/\dZ l.params l.scope)/\n6 X z g iW N' (X.N.length+j) scope (.Call (.Name fx fp) [.Name v vp] [] cp) l d:=by
 cases hc.out with
 |@iU x f ir fi params body sc xb _ fp' Ah pos h1 h2 h3 h4 h5 h6 h7 h8 h9=>
  unfold QG at ed;split at ed
  .
   rename_i fxx k' e1;split at ed
   .
    rename_i ci Ej e2;split at ed
    .
     rename_i C e3;split at ed
     .
      rename_i r0 g3 e4;split at ed
      .
       rename_i r' e5;obtain⟨fa,fd,m1,F,Sc,bd,db⟩:=ct.md.fn _ fi h1;subst h2;have Bl:=iJ ct h7;have L:=rX h8;obtain⟨dv,bE⟩:=bD B.pl;exact⟨⟨Nc ct h4 h5,Bl,L⟩,Qz Bl L F m1 db (λbk=>(ct.blk B.nd bk).jA _ B.gl) (by rw[ct.N];exact B.ix) (λbk=>(ct.blk B.nd bk).vis B.vi) dv bE
        (λbk=>yE (Y:=X.blk N' scope bk) hS hX hF ct.md ct.room ct.calm hK ct.nd ct.N h1 h5 h6 h8 h9 e1 e2 e3 e4 e5 F Sc bd) ed⟩
      . cases ed
     . cases ed
    . cases ed
   . cases ed
  . cases ed
theorem yF(hS:jq P rn)(hX:kM P rn){fns:List Fx}(hF:fH P fns)(ct:aX P k X c)(hK:z.K=X.K){f ir:Nat}{fx v:Str}{scope:Scope}{N':List Str}{kb j:Nat}{fp vp cp:Pos}{g:G}(B:WR c fx scope N' v kb j) :
  ∀{ls:List Lt}{es:List Ex}{ds:List D},lF (Cm P c) fx f ir P.iV ls es->yu rn k fns f ir P.iV es g=some ds->(∀m∈ls,(∃q cc,n5 X iW q cc)/\aM X.env.scope m.scope/\dZ m.params m.scope)/\dY (n6 X z g iW N' (X.N.length+j) scope (.Call (.Name fx fp) [.Name v vp] [] cp)) ls ds
 |_,_,_,.nil,h=>by cases h;exact⟨(λm h=>nomatch h),.nil⟩
 |l::ls,e::es,_,.cons hc hcs,h=>by
  unfold yu at h;split at h
  .
   rename_i d ed;split at h
   . rename_i ds eds;cases h;obtain⟨q1,q2⟩:=yF hS hX hF ct hK B hcs eds;obtain⟨q3,q4⟩:=K9 hS hX hF ct hK B hc ed;exact⟨λm hm=>(d0.mp hm).elim (λe=>e▸q3) (q1 m),.cons q4 q2⟩
   . cases h
  . cases h
theorem FN(hS:jq P rn)(hX:kM P rn){fns:List Fx}(hF:fH P fns)(ct:aX P k X c)(hK:z.K=X.K){f ir:Nat}{fx v:Str}{scope:Scope}{N':List Str}{kb j:Nat}{fp vp cp:Pos}{g g':G}{l:Lt}{ls:List Lt}{es:List Ex}{r:R}(hl:lF (Cm P c) fx f ir P.iV (l::ls) es)(B:WR c fx scope N' v kb j)(h:aW rn z.bor k fns (.refs f ir P.iV es) g=some (r,g')) :
  ∃ds,r=.new ds/\(∃q cc,n5 X iW q cc)/\(∀m∈l::ls,aM X.env.scope m.scope/\dZ m.params m.scope)/\dY (n6 X z g iW N' (X.N.length+j) scope (.Call (.Name fx fp) [.Name v vp] [] cp)) (l::ls) ds:=by
 unfold aW at h;dsimp only at h;split at h
 . rename_i ds e;cases h;obtain⟨q1,q2⟩:=yF hS hX hF ct hK B hl e;exact⟨ds,rfl,(q1 l dA).1,λm hm=>(q1 m hm).2,q2⟩
 . cases h
def W9(X:Cx)(z:Z)(e:Expr)(g:G)(o:Option (R×G)):Prop:=∀r g',o=some (r,g')->aB X z e g r g'
theorem W9.none{e:Expr}{g:G}:W9 X z e g none:=λ_ _ h=>nomatch h
theorem W9.some{e:Expr}{g g':G}{r:R}(h:aB X z e g r g'):W9 X z e g (some (r,g')):=λ_ _ q=>by cases q;exact h
theorem La(hS:jq P rn)(hX:kM P rn){fns:List Fx}(hF:fH P fns)(ct:aX P k X c)(hK:z.K=X.K){e:Expr}{x:Ex}{g:G}(hc:Cm P c e x):W9 X z e g (aW rn z.bor k fns x g):=by
 cases hc.out with
 |int=>exact .some (Ov)
 |bool=>exact .some (Vu)
 |none=>exact .some (Ow)
 |str=>exact .some (Ox)
 |var h1 h2 h3=>
  obtain⟨hd,bI⟩:=bD h3;unfold aW;dsimp only;split
  . rename_i e1;exact .some (Oz (by rw[ct.N];exact h1) (ct.vis h2) hd bI e1)
  . rename_i e1;exact .some (Ir (by rw[ct.N];exact h1) (ct.vis h2) hd bI e1)
  . exact .none
 |glob h1 h2=>obtain⟨hd,v,u,q1,q2,q3⟩:=ct.md.ct _ _ h1;exact .some (Iu (ct.jA _ h2) q1 q2 (hK▸q3) hd)
 |bin h1 h2=>
  unfold aW;dsimp only;split
  .
   rename_i r1 r2 g2 e1;obtain⟨s1,s2,g1,q1,q2,q3⟩:=iK e1;cases q3;split
   .
    rename_i d1 d2 p1 p2;split
    . rename_i r0 e3;exact .some (OD (bq (hS.e ct hK h1 q1)) (bq (hS.e ct hK h2 q2)) p1 p2 (QJ hK e3))
    . exact .none
   . exact .none
  . exact .none
 |cmp h1 h2 h3=>
  unfold aW;dsimp only;split
  .
   rename_i r1 r2 g2 e1;obtain⟨s1,s2,g1,q1,q2,q3⟩:=iK e1;cases q3;split
   .
    rename_i d1 d2 p1 p2;split
    . rename_i r0 e3;exact .some (OJ (bq (hS.e ct hK h1 q1)) (bq (hS.e ct hK h2 q2)) p1 p2 (jl hK ct.room e3) h3)
    . exact .none
   . exact .none
  . exact .none
 |chain h1 h2 h3=>
  unfold aW;dsimp only;split
  .
   rename_i d1 g1 e1;split
   . rename_i b g2 e2;exact .some (Dj (bh hS ct hK h1 e1) (wI hS ct hK h2 e2) h3)
   . exact .none
  . exact .none
 |neg h1=>
  unfold aW;dsimp only;split
  . rename_i i g1 e1;exact .some (Vw (bh hS ct hK h1 e1) rfl Pz)
  . exact .none
 |not h1=>
  unfold aW;dsimp only;split
  . rename_i b g1 e1;exact .some (O9 (hS.e ct hK h1 e1))
  . exact .none
 |and h1=>exact λ_ _ h=>yC hS ct hK h1 h
 |or h1=>exact λ_ _ h=>Fv hS ct hK h1 h
 |ite h1 h2 h3=>
  unfold aW;dsimp only;split
  . rename_i g1 e1;exact λ_ _ h=>Pa (hS.t ct hK h1 e1) (hS.e ct hK h2 h)
  . rename_i g1 e1;exact λ_ _ h=>Pb (hS.t ct hK h1 e1) (hS.e ct hK h3 h)
  . exact .none
 |tup h1=>
  unfold aW;dsimp only;split
  .
   rename_i ds g1 e1;split
   . rename_i hl;exact .some (Ph (g8 hS ct hK h1 e1) (oz _) hl)
   . exact .none
  . exact .none
 |lst h1=>
  unfold aW;dsimp only;split
  .
   rename_i ds g1 e1;split
   . rename_i hl;exact .some (Pj (g8 hS ct hK h1 e1) (oz _) hl)
   . exact .none
  . exact .none
 |ix h1 h2=>
  unfold aW;dsimp only;split
  .
   rename_i r1 r2 g2 e1;obtain⟨s1,s2,g1,q1,q2,q3⟩:=iK e1;cases q3;split
   .
    rename_i d1 d2 p1 p2;split
    . rename_i r0 e3;exact .some (Vv (bq (hS.e ct hK h1 q1)) (bq (hS.e ct hK h2 q2)) p1 p2 (QK hK e3) h2.K4)
    . exact .none
   . exact .none
  . exact .none
 |slice h1 h2 h3=>
  unfold aW;dsimp only;split
  .
   rename_i r0 g1 e1;have q:=bq (hS.e ct hK h1 e1);split
   .
    rename_i i g2 e2;have q2:=uJ hS ct hK h2 e2;split
    .
     rename_i j g3 e3;have q3:=uJ hS ct hK h3 e3;split
     . rename_i l e4;rw[e4]at q;exact .some (zI hK q q2 q3)
     . rename_i l e4;rw[e4]at q;exact .some (zH hK q q2 q3)
     .
      split
      . rename_i e5;exact .some (zG (d:=.non) hK q q2 q3 e5)
      . exact .none
    . exact .none
   . exact .none
  . exact .none
 |call h1 h2 h3 h4=>
  subst h2;unfold aW;dsimp only;split
  .
   rename_i fx k' W8 sO;split
   . rename_i rs g1 e1;exact λ_ _ h=>FH hS ct hK h1 (hF _ _ _ h1 sO) h3 h4 (jU hS ct hK h4 e1) h
   . exact .none
  . exact .none
 |@blt x b e es xs p pos h1 h2 h3 h4=>
  unfold aW;dsimp only;split
  .
   rename_i rs g1 e1;split
   .
    rename_i ds e2;split
    .
     rename_i r0 e3;have ha:=jU hS ct hK h4 e1;have bI:=QM hK ct.calm e3;have dj:starEach (e::es) X.env=(false,eval e X.env)::starEach es X.env:=by cases h4 with |cons h _=>exact h.star _
     have iB:(backTo pos (starEach es X.env)).any (·.1)=false:=by cases h4 with |cons _ h=>exact h.plain
     subst h1;cases b with
     |len=>exact .some (fE ha e2 bI (ct.jA _ h3) (ct.md.bn _ h2) rfl ⋯ ⋯ dj iB)
     |list=>exact .some (j7 ha e2 bI (ct.jA _ h3) (ct.md.bn _ h2) rfl ⋯ ⋯ dj iB)
     |tuple=>exact .some (j7 ha e2 bI (ct.jA _ h3) (ct.md.bn _ h2) rfl ⋯ ⋯ dj iB)
     |max=>exact .some (fE ha e2 bI (ct.jA _ h3) (ct.md.bn _ h2) rfl ⋯ ⋯ dj iB)
     |min=>exact .some (fE ha e2 bI (ct.jA _ h3) (ct.md.bn _ h2) rfl ⋯ ⋯ dj iB)
     |str=>exact .some (j7 ha e2 bI (ct.jA _ h3) (ct.md.bn _ h2) rfl ⋯ ⋯ dj iB)
     |all=>exact .some (fE ha e2 bI (ct.jA _ h3) (ct.md.bn _ h2) rfl ⋯ ⋯ dj iB)
     |sorted=>exact .some (fE ha e2 bI (ct.jA _ h3) (ct.md.bn _ h2) rfl ⋯ ⋯ dj iB)
     |sum=>exact .some (fE ha e2 bI (ct.jA _ h3) (ct.md.bn _ h2) rfl ⋯ ⋯ dj iB)
    . exact .none
   . exact .none
  . exact .none
 |@mh a xa T n p pT pos h1 h2 h3 h4 h5 h6 h7=>
  unfold aW;dsimp only;split
  .
   rename_i r0 g1 e1;split
   .
    rename_i d e2;obtain⟨t1,_⟩:=FJ ct (wG.cons (pos:=pT) h4 h5 h6 h7 .nil);cases t1 with
    |cons t1 _=>exact .some (PN hK (bq (hS.e ct hK h1 e1)) e2 (λ_ _ _ p=>uE p h7) (ct.jA _ h3) (ct.md.bn _ h2) rfl t1.gl t1.mg t1.bt t1.nn t1.db (h1.star _))
   . exact .none
  . exact .none
 |pG h1 h2 h3 h4 h5=>
  unfold aW;dsimp only;split
  .
   rename_i r0 g1 e1;split
   . rename_i d e2;obtain⟨t1,t2⟩:=FJ ct h5;exact .some (Jz hK (bq (hS.e ct hK h1 e1)) e2 t1 ⋯ (λ_ _ _ p=>qw p t2) (ct.jA _ h3) (ct.md.bn _ h2) rfl (h1.star _))
   . exact .none
  . exact .none
 |rev h1=>
  unfold aW;dsimp only;split
  .
   rename_i r0 g1 e1;have q:=bq (hS.e ct hK h1 e1);split
   . rename_i l e4;rw[e4]at q;exact .some (JZ hK q)
   .
    split
    . rename_i e5;exact .some (JX hK q e5)
    . exact .none
  . exact .none
 |emp=>exact .some (Qp)
 |peek h1=>
  unfold aW;dsimp only;split
  .
   rename_i hb;have hb:z.bor=[]:=List.isEmpty_iff.mp hb;split
   .
    rename_i d g1 e1;split
    . rename_i hf;exact .some (Ka hb hf (hS.e ct hK h1 (by rw[hb];exact e1)))
    . exact .none
   . exact .none
  . exact .none
 |stk=>exact .none
 |@lR a xa T l p pT pos h1 h2 h3 h4 h5=>
  unfold aW;dsimp only;obtain⟨db,cv,hcv,hn,hC⟩:=ct.md.ups _ _ h4;have cls:∃w:V,(∀u,RelV w u->u=cv)/\PE X (.Name T pT) (tC w):=by
   rcases hcv with ⟨m1,D,rfl⟩ |⟨m1,m2,m3,n,rfl⟩
   . exact⟨.ref D,λu r=>r,xB (ct.jA _ h5) m1 rfl db⟩
   . exact⟨.ty n,λu r=>r,qP (ct.jA _ h5) (ct.md.bn _ m1) m3 rfl m2 db⟩
  obtain⟨w,hw,pw⟩:=cls;split
  .
   rename_i r0 g1 e1;split
   .
    rename_i C e2;split
    . rename_i b e3;exact .some (Em hK (bq (hS.e ct hK h1 e1)) e2 (λ_ _ _ _=>hC C b e3) (ct.jA _ h3) (ct.md.bn _ h2) rfl hw pw (h1.star _))
    . exact .none
   . rename_i e2;exact .some (Em hK (bq (hS.e ct hK h1 e1)) e2 (λ_ _ _ _=>hn) (ct.jA _ h3) (ct.md.bn _ h2) rfl hw pw (h1.star _))
   . exact .none
  . exact .none
 |@iU x f ir fi params body scope xb ca fp Ah pos h1 h2 h3 h4 h5 h6 h7 h8 h9=>
  unfold aW;dsimp only;split
  .
   rename_i fx k' e1;split
   .
    rename_i ci Ej e2;split
    .
     rename_i C e3;split
     .
      rename_i r0 g3 e4;split
      .
       rename_i r' e5;rcases h3 with ⟨rfl,h3⟩ |rfl
       . exact .some (K8 hS hX hF ct hK h1 h2 h3 h4 h5 h6 h7 h8 h9 e1 e2 e3 e4 e5)
       . exact .some (nomatch e3)
      . exact .none
     . exact .none
    . exact .none
   . exact .none
  . exact .none
 |comp h1 h2 h3 h4 h5 h6 h7 h8=>
  unfold aW;dsimp only;split
  . rename_i acc g1 e1;obtain⟨items,g1,gE,w1,w2,w3,w4,w5,rfl⟩:=uK hS ct hK h3 h4 h5 h6 h7 h8 e1;exact .some (Jr (iJ ct h1) ct.calm (by rw[ct.N];exact iI h2) w1 w2 w3 w4 w5 λy=>h6.folded y)
  . exact .none
 |@gq a xa lp p rp pos h1 h2 h3 h4 h5=>
  unfold aW;dsimp only;split
  .
   rename_i j g1 e1;split
   .
    rename_i hj;obtain⟨hj,hl⟩:=hj;simp only[Kf,eP,hU]at hj;have q:=Dn (z:=z) (lp:=lp) (pos:=pos) (ZX (p:=p) (rp:=rp) (dW (bh hS ct hK h1 e1) ez (h1.star _)) (ct.jA _ h3) (ct.md.bn _ h2) (h1.star _)) ct.calm (ct.jA _ h5) (ct.md.bn _ h4) rfl ⟨by lia,by lia,hj.1,hj.2⟩ (by rw[Int.sub_zero];exact hl)
    rw[Int.sub_zero]at q;exact .some (q)
   . exact .none
  . exact .none
 |eX h1 h2 h3=>
  unfold aW;dsimp only;split
  .
   rename_i r0 g1 e1;split
   .
    rename_i d e2;split
    .
     rename_i l e3;split
     .
      rename_i ns e4;split
      . rename_i hl;exact .some (vY hK (Rz (bq (hS.e ct hK h1 e1)) e2 (h1.star _)) e2 e3 e4 hl (ct.jA _ h3) (ct.md.bn _ h2) (h1.star _))
      . exact .none
     . exact .none
    . exact .none
   . exact .none
  . exact .none
 |append h1 h2 h3 h4 h5=>
  obtain⟨hd,bI⟩:=bD h3;unfold aW;dsimp only;split
  .
   rename_i l0 e0;split
   .
    rename_i d g1 e1;split
    .
     rename_i l e2;split
     . rename_i hl;exact .some (zD (by rw[ct.N];exact h1) (ct.vis h2) hd bI e0 (dW (bh hS ct hK h4 e1) ez (h4.star _)) e2 hl rfl (wK h4) h5 (h4.star _))
     . exact .none
    . exact .none
   . exact .none
  . exact .none
 |extend h1 h2 h3 h4 h5=>
  obtain⟨hd,bI⟩:=bD h3;unfold aW;dsimp only;split
  .
   rename_i l0 e0;split
   .
    rename_i d g1 e1;split
    .
     rename_i l e2;split
     . rename_i hl;exact .some (zK (by rw[ct.N];exact h1) (ct.vis h2) hd bI e0 (dW (bh hS ct hK h4 e1) ez (h4.star _)) e2 hl rfl (wK h4) h5 (h4.star _))
     . exact .none
    . exact .none
   . exact .none
  . exact .none
 |gu h1 h2 h3 h4 h5=>
  obtain⟨hd,bI⟩:=bD h3;unfold aW;dsimp only;split
  .
   rename_i l0 e0;split
   .
    rename_i j g1 e1;split
    .
     rename_i l e2;split
     .
      rename_i n e3;split
      .
       rename_i d e4;split
       . rename_i hl;exact .some (De (by rw[ct.N];exact h1) (ct.vis h2) hd bI e0 (dW (bh hS ct hK h4 e1) ez (h4.star _)) e2 e3 e4 hl rfl (wK h4) h5 (h4.star _))
       . exact .none
      . exact .none
     . exact .none
    . exact .none
   . exact .none
  . exact .none
theorem FP(hS:jq P rn)(hX:kM P rn){fns:List Fx}(hF:fH P fns)(ct:aX P k X c)(hK:z.K=X.K){e:Expr}{x:Ex}{g g':G}{r:R}(hc:Cm P c e x)(h:aW rn z.bor k fns x g=some (r,g')):aB X z e g r g':=La hS hX hF ct hK hc r g' h
end
section
theorem FQ(hS:jq P rn)(ct:aX P k X c)(hK:z.K=X.K){e:Expr}{x:Ex}{g g':G}{b:Bool}(hc:Cm P c e x)(h:stepT rn z.bor k x g=some (b,g')):cD X z e g b g':=by
 have plain:(match rn.e z.bor k x g with |some (r,g1)=>(match pk (norm r) g1 with |some d=>(match Jx d with |some c=>some (c,g1) |none=>none) |none=>none) |none=>none)=some (b,g')->
   (∀whole,isTrue e X.env whole=(do let v <- whole;standAt e.pos;holding [v] (truthy v)))->cD X z e g b g':=by
  intro h he;split at h
  .
   rename_i r g1 e1;split at h
   .
    rename_i d e2;split at h
    . rename_i b' e3;cases h;exact Dm hK (bq (hS.e ct hK hc e1)) e2 e3 he
    . cases h
   . cases h
  . cases h
 cases hc.out with
 |int=>exact plain h λ_=>rfl
 |bool=>exact plain h λ_=>rfl
 |none=>exact plain h λ_=>rfl
 |str=>exact plain h λ_=>rfl
 |var h1 h2 h3=>exact plain h λ_=>rfl
 |glob h1 h2=>exact plain h λ_=>rfl
 |bin h1 h2=>exact plain h λ_=>rfl
 |cmp h1 h2 h3=>
  unfold stepT at h;dsimp only at h;split at h
  .
   rename_i r1 r2 g2 e1;obtain⟨s1,s2,g1,q1,q2,q3⟩:=iK e1;cases q3;split at h
   .
    rename_i d1 d2 p1 p2;split at h
    . rename_i r0 e3;cases h;exact O1 (bq (hS.e ct hK h1 q1)) (bq (hS.e ct hK h2 q2)) p1 p2 (jl hK ct.room e3) h3
    . cases h
   . cases h
  . cases h
 |chain h1 h2 h3=>
  unfold stepT at h;dsimp only at h;split at h
  . rename_i d1 g1 e1;exact Dk (bh hS ct hK h1 e1) (wI hS ct hK h2 h) h3
  . cases h
 |neg h1=>exact plain h λ_=>rfl
 |not h1=>
  unfold stepT at h;dsimp only at h;split at h
  . rename_i b' g1 e1;cases h;exact O2 (hS.t ct hK h1 e1)
  . cases h
 |and h1=>exact (uI hS ct hK h1 h).tr
 |or h1=>exact (yD hS ct hK h1 h).tr
 |ite h1 h2 h3=>cases h
 |tup h1=>exact plain h λ_=>rfl
 |lst h1=>exact plain h λ_=>rfl
 |ix h1 h2=>exact plain h λ_=>rfl
 |slice h1 h2 h3=>exact plain h λ_=>rfl
 |call h1 h2 h3 h4=>exact plain h λ_=>rfl
 |blt h1 h2 h3 h4=>exact plain h λ_=>rfl
 |mh h1 h2 h3 h4 h5 h6 h7=>exact plain h λ_=>rfl
 |pG h1 h2 h3 h4 h5=>exact plain h λ_=>rfl
 |lR h1 h2 h3 h4 h5=>exact plain h λ_=>rfl
 |rev h1=>exact plain h λ_=>rfl
 |emp=>exact plain h λ_=>rfl
 |peek h1=>exact plain h λ_=>rfl
 |stk=>exact plain h λ_=>rfl
 |iU h1 h2 h3 h4 h5 h6 h7 h8 h9=>exact plain h λ_=>rfl
 |comp h1 h2 h3 h4 h5 h6 h7 h8=>exact plain h λ_=>rfl
 |gq h1 h2 h3 h4 h5=>exact plain h λ_=>rfl
 |eX h1 h2 h3=>exact plain h λ_=>rfl
 |append h1 h2 h3 h4 h5=>exact plain h λ_=>rfl
 |extend h1 h2 h3 h4 h5=>exact plain h λ_=>rfl
 |gu h1 h2 h3 h4 h5=>exact plain h λ_=>rfl
theorem sf(ct:aX P k X c):PassesOwn (model X.prog X.w) X.A X.env X.xe:=by rw[ct.xe];exact PassesOwn.never
theorem oB{T:Tg}{body:List Stmt}{b:G->Option (Fl×G)}(hb:∀{g g':G}{f:Fl},b g=some (f,g')->dX X z body g f g'):∀{items:List D}{g g':G}{f:Fl},n8 T b items g=some (f,g')->eE X z body T items g f g'
 | [],_,_,_,h=>by cases h;exact .nil
 |d::l,_,_,_,h=>by
  unfold n8 at h;split at h
  . cases h
  .
   rename_i g0 e0;split at h
   . cases h
   . rename_i g1 e1;exact .next e0 (hb e1) (oB hb h)
   . rename_i g1 e1;exact .cont e0 (hb e1) (oB hb h)
   . rename_i g1 e1;cases h;exact .brk e0 (hb e1)
   . rename_i g1 e1;cases h;exact .ret e0 (hb e1)
theorem wL{ce:Expr}{body:List Stmt}{t:G->Option (Bool×G)}{b:G->Option (Fl×G)}(ht:∀{g g':G}{v:Bool},t g=some (v,g')->cD X z ce g v g')(hb:∀{g g':G}{f:Fl},b g=some (f,g')->dX X z body g f g') :
  ∀{n:Nat}{g g':G}{f:Fl},MK t b n g=some (f,g')->lP X z ce body n g f g'
 | 0,_,_,_,h=>by cases h
 |n+1,_,_,_,h=>by
  unfold MK at h;split at h
  . cases h
  . rename_i g1 e1;cases h;exact .done (ht e1)
  .
   rename_i g1 e1;split at h
   . cases h
   . rename_i g2 e2;exact .next (ht e1) (hb e2) (wL ht hb h)
   . rename_i g2 e2;exact .cont (ht e1) (hb e2) (wL ht hb h)
   . rename_i g2 e2;cases h;exact .brk (ht e1) (hb e2)
   . rename_i g2 e2;cases h;exact .ret (ht e1) (hb e2)
theorem g9{P:Pg}{c:Ct}{e:Expr}{x:Ex}(h:Cm P c e x)(hn:∀a b s p,e≠.ListComp a b s p)(t:Option Expr)(l:Nat)(env:Env):swapsWith e t l env=pure false:=by have hs:=h.Aj;cases e <;> first |rfl |exact absurd rfl (hn _ _ _ _) |exact Bool.noConfusion (show false=true from hs)
theorem oE(ct:aX P k X c)(gQ:c.df=true){a:Expr}{b:List Comprehension}{s:Scope}{p py:Pos}{y:Str}{l:Nat}(hl:eG c y=true):swapsWith (.ListComp a b s p) (some (.Name y py)) l X.env=pure (Ko c y py p s):=by
 show (pure (X.env.blockKind==.function&&X.env.kindOf y==some .local&&py.line==(Expr.ListComp a b s p).pos.line&&!(s.names.any λ(n,k)=>n==y&&(k==.local||k==.cell))):Sem Bool)=_
 rw[ct.bk gQ];have e:(X.env.kindOf y==some .local)=(c.sc.names.lookup y==some .local):=by
  unfold eG at hl;split at hl
  . rename_i e;rw[e];show (X.env.scope.names.lookup y==_)=_;rw[ct.QH y e]
  . rename_i e;rw[e];show (X.env.scope.names.lookup y==_)=_;rw[ct.YB gQ y e]
  . cases hl
 rw[e];rfl
def RB:Expr->Bool
 |.Starred ..=>true
 |_=>false
theorem FT{e:Expr}{x:Ex}(h:Cm P c e x):RB e=false:=by have hs:=h.Aj;cases e <;> first |rfl |exact Bool.noConfusion (show false=true from hs)
theorem RC{x:Str}{pn eS:Pos}{ix:Expr}{xi:Ex}{X:Cx}(h:Cm P c ix xi):∀v,assign (.Subscript (.Name x pn) ix eS) X.env v=(do
   let ov <- holding [v] (eval (.Name x pn) X.env)
   let iv <- holding [v,ov] (eval ix X.env)
   standAt eS
   holding [v,ov,iv] (setItem ov iv v)
   release [v,ov,iv] []):=by
 have hs:=h.Aj;cases ix <;> first |exact λ_=>rfl |exact Bool.noConfusion (show false=true from hs)
theorem RD{es:List Expr}{k0:Nat}{pt:Pos}{e:Expr}{x:Ex}{env:Env}(h:Cm P c e x)(hn:∀vs k p,e≠.Tuple vs k p):swappedStores [.Tuple es k0 pt] e env=pure none:=by have hs:=h.Aj;cases e <;> first |rfl |exact absurd rfl (hn _ _ _) |exact Bool.noConfusion (show false=true from hs)
theorem RJ{es:List Expr}{k0:Nat}{pt:Pos}{e:Expr}(ct:aX P k X c)(h:EY c es e=true):swappedStores [.Tuple es k0 pt] e X.env=pure none:=by
 unfold EY at h;split at h
 .
  rename_i ea eb;obtain⟨h1,h2⟩:=aj h;obtain⟨h3,h4⟩:=aj h2;split at h4
  .
   rename_i x ex;split at h4
   .
    rename_i y ey;obtain⟨px,rfl⟩:∃p,ea=.Name x p:=by cases ea <;> first | (cases ex;exact⟨_,rfl⟩) |cases ex
    obtain⟨py,rfl⟩:∃p,eb=.Name y p:=by cases eb <;> first | (cases ey;exact⟨_,rfl⟩) |cases ey
    obtain⟨vs,k2,xF,rfl,hv⟩:∃vs k p,e=.Tuple vs k p/\vs.length=2:=by cases e <;> first |exact⟨_,_,_,rfl,kA h1⟩ |cases h1
    obtain⟨a,b,rfl⟩:∃a b,vs=[a,b]:=by
     match vs,hv with
     | [a,b],_=>exact⟨a,b,rfl⟩
    have hn:(X.env.kindOf x==some NameKind.local)=false\/(X.env.kindOf y==some NameKind.local)=false:=by
     rcases Bool.or_eq_true_iff.mp h4 with h2 |h2
     . exact .inl (by have hx:X.env.kindOf x=some .cell:=ct.YB h3 x (kA h2);rw[hx];rfl)
     . exact .inr (by have hx:X.env.kindOf y=some .cell:=ct.YB h3 y (kA h2);rw[hx];rfl)
    show (if _ then _ else _:Sem (Option (List Str)))=_
    split
    . rfl
    .
     show (if _ then _ else _:Sem (Option (List Str)))=_
     split
     . rfl
     .
      show (if _ then _ else _:Sem (Option (List Str)))=_
      rw[fN];rcases hn with hn |hn
      . simp only[mI,List.filterMap_nil,hn,CA,AB,CF];split <;> simp
      . simp only[mI,List.filterMap_nil,hn,CA,AB,CF];split <;> simp
   . cases h4
  . cases h4
 . cases h
theorem RK{es:List Expr}{k0:Nat}{pt:Pos}{e:Expr}{x:Ex}(ct:aX P k X c)(h:Cm P c e x)(hn:(∀vs k p,e≠.Tuple vs k p)\/EY c es e=true):swappedStores [.Tuple es k0 pt] e X.env=pure none:=
 hn.elim (RD h) (RJ ct)
theorem RL{y:Str}{pn eS:Pos}{ix e:Expr}{x:Ex}{env:Env}(h:Cm P c e x):swappedStores [.Subscript (.Name y pn) ix eS] e env=pure none:=by have hs:=h.Aj;cases e <;> first |rfl |exact Bool.noConfusion (show false=true from hs)
theorem RM{x y:Str}{a b:Expr}{px py pt xF:Pos}{kt k2:Nat}{xa xb:Ex}(ct:aX P k X c)(h:Km c x y px py a b=true)(ca:Cm P c a xa)(cb:Cm P c b xb):X.env.scope.names.lookup x=some .local/\X.env.scope.names.lookup y=some .local/\
  swappedStores [.Tuple [.Name x px,.Name y py] kt pt] (.Tuple [a,b] k2 xF) X.env=pure (some [x,y]):=by
 unfold Km at h;simp only[eP]at h;obtain⟨⟨⟨⟨⟨⟨h1,h2⟩,h3⟩,h4⟩,h5⟩,h6⟩,h7⟩:=h;have e1:=ct.QH x (eq_of_beq h1);have e2:=ct.QH y (eq_of_beq h2);refine⟨e1,e2,?_⟩;have hb:=ct.bk h7;have sa:=FT ca;have sb:=FT cb;have k1:X.env.kindOf x=some .local:=e1;have k2':X.env.kindOf y=some .local:=e2;have hxy:(y==x)=false:=by
  simp only[BE]at h4;rw[B4]at h4 ⊢
  exact λe=>h4 e.symm
 have h3':py.line=px.line:=eq_of_beq h3;show (if _ then _ else _:Sem (Option (List Str)))=_
 rw[fR (by rw[hb];simp)]
 show (if _ then _ else _:Sem (Option (List Str)))=_
 rw[fR (by show ¬ ((RB a||(RB b||false))=true);rw[sa,sb];decide)]
 show (if _ then _ else _:Sem (Option (List Str)))=_
 dsimp only;generalize hq:List.filterMap _ [Expr.Name x px,Expr.Name y py]=ns;have hn:ns=[x,y]:=by rw[<- hq];have l0:(([Expr.Name x px,Expr.Name y py].head?.map (·.pos.line)).getD 0)=px.line:=rfl;simp[mI,k1,k2',h3',Expr.pos]
 subst hn;have hd:[x,y].eraseDups.length=2:=by have iC:y≠x:=B4.mp hxy;simp[List.eraseDups_cons,List.filter_cons,iC]
 rw[fR (by rw[hd];simp)]
 show (if _ then _ else _:Sem (Option (List Str)))=_
 rw[fR (by show ¬ ((foldedForSure 8 a&&(foldedForSure 8 b&&true))=true);rw[Bool.and_true];intro z;rw[z]at h5;exact absurd h5 ⋯)]
 show (if _ then _ else _:Sem (Option (List Str)))=_
 rw[fR (by show ¬ ((constantsAlone 8 a&&(constantsAlone 8 b&&true))=true);rw[Bool.and_true];intro z;rw[z]at h6;exact absurd h6 ⋯)]
theorem oF(hS:jq P rn)(ct:aX P k X c)(gQ:c.df=true)(hK:z.K=X.K){s:Stmt}{x:Sm}{g g':G}{f:Fl}(hc:Br P c s x)(h:aE rn z.bor k x g=some (f,g')):fT X z s g f g':=by
 cases hc.out with
 |ret h1=>
  unfold aE at h;dsimp only at h;split at h
  . rename_i r g1 e1;cases h;exact P4 (hS.e ct hK h1 e1)
  . cases h
 |expr h1 h2=>
  unfold aE at h;dsimp only at h;split at h
  . rename_i r g1 e1;cases h;exact Jg (hS.e ct hK h1 e1) (g9 h1 h2 _ _ _)
  . cases h
 |@set y i e x py pos h1 h2 h3 h4=>
  have nm:=ct.nm h1 h2;have hsw:swapsWith e (some (.Name y py)) pos.line X.env=pure false:=by
   by_cases hn:∀a b s p,e≠.ListComp a b s p
   . exact g9 h3 hn _ _ _
   .
    have:∃a b s p,e=.ListComp a b s p:=Classical.byContradiction λq=>hn λa b s p e=>q ⟨a,b,s,p,e⟩
    obtain⟨a,b,s,p,rfl⟩:=this;rw[oE ct gQ h2,h4 a b s p rfl]
  unfold aE at h;dsimp only at h;split at h
  . cases h
  .
   rename_i hb;split at h
   .
    rename_i l g1 e1;split at h
    . rename_i hl;cases h;exact Ji nm.nd nm.ix nm.lc (hS.e ct hK h3 e1) hl hsw nm.fn hb
    . cases h
   .
    rename_i r g1 _ e1;split at h
    . rename_i d g2 e2;cases h;exact Jh nm.nd nm.ix nm.lc (Ft (hS.e ct hK h3 e1) e2) hsw nm.fn hb
    . cases h
   . cases h
 |@setC y i a b s p n kk T it co x py pos h1 h2 h3=>
  have hl:c.sc.names.lookup y=some .local:=by unfold Ko at h2;simp only[eP]at h2;exact eq_of_beq h2.1.1
  have dj:eG c y=true:=by unfold eG;rw[hl]
  have nm:=ct.nm h1 dj;unfold aE at h;dsimp only at h;split at h
  . cases h
  .
   rename_i hb;split at h
   .
    rename_i acc g1 e1;split at h
    .
     rename_i hi;cases h;cases h3.out with
     |comp k1 k2 k3 k4 k5 k6 k7 k8=>obtain⟨items,g1,gE,w1,w2,w3,w4,w5,rfl⟩:=uK hS ct hK k3 k4 k5 k6 k7 k8 e1;exact Js (iJ ct k1) ct.calm (by rw[ct.N];exact iI k2) w1 w2 w3 w4 w5 nm.nd nm.ix (ct.QH _ hl) hb hi (by rw[oE ct gQ dj,h2]) λy=>k6.folded y
    . cases h
   . cases h
 |@tgt es k0 pt pos T e x h1 h2 h3 h4=>
  unfold aE at h;dsimp only at h;split at h
  . cases h
  .
   rename_i hb;split at h
   .
    rename_i d g1 e1;split at h
    .
     rename_i g2 e2;cases h;obtain⟨t,q,kt⟩:=FG (z:=z) ct hK h1 λi hi hm=>hb (by rw[List.any_eq_true];exact⟨i,hi,u8 hm⟩)
     obtain⟨te,qe,ke⟩:=bh hS ct hK h2 e1;have hsw:swapsWithSole [.Tuple es k0 pt] e pos.line X.env=pure false:=g9 h2 h4 (some (.Tuple es k0 pt)) pos.line X.env;have dj:swappedStores [.Tuple es k0 pt] e X.env=pure none:=RK ct h2 h3;refine⟨_,BK qe q hsw dj rfl,λσ As M H E s k2=>ke σ As M H _ s λv H1 aO M1 s1 dB R=>?_⟩
     exact kt d g1 _ e2 v σ aO M1 H1 _ s1 R λσ' aA s' _=>k2 σ' aA M1 H1 s' dB
    . cases h
   . cases h
 |@item y i ix e xj x pn eS pos h1 h2 h3 h4 h5 h6=>
  obtain⟨hd,bI⟩:=bD h3;unfold aE at h;dsimp only at h;split at h
  .
   rename_i d g1 e1;split at h
   .
    rename_i l0 e2;split at h
    .
     rename_i n g2 e3;split at h
     .
      rename_i l e4;split at h
      . rename_i m e5;cases h;have hsw:swapsWithSole [.Subscript (.Name y pn) ix eS] e pos.line X.env=pure false:=g9 h5 h6 (some (.Subscript (.Name y pn) ix eS)) pos.line X.env;have dj:swappedStores [.Subscript (.Name y pn) ix eS] e X.env=pure none:=RL h5;exact Jj (by rw[ct.N];exact h1) (ct.vis h2) hd bI (bh hS ct hK h5 e1) e2 (bh hS ct hK h4 e3) e4 e5 (RC h4) hsw dj rfl
      . cases h
     . cases h
    . cases h
   . cases h
  . cases h
 |@par x y i j a b xa xb px py pt xF pos kt k2 h1 h2 h3 h4 h5 h6=>
  unfold aE at h;dsimp only at h;split at h
  . cases h
  .
   rename_i hbi;split at h
   . cases h
   .
    rename_i Z5;split at h
    . rename_i d1 d2 g1 e1;cases h;obtain⟨w1,w2,w3⟩:=RM (k2:=k2) (kt:=kt) (pt:=pt) (xF:=xF) ct h4 h5 h6;exact Qo ct.calm (ct.N▸ct.nd) (by rw[ct.N];exact h1) (by rw[ct.N];exact h2) h3 w1 w2 (g8 hS ct hK (.cons h5 (.cons h6 .nil)) e1) hbi Z5 w3 rfl
    . cases h
 |ite h1 h2 h3=>
  unfold aE at h;dsimp only at h;split at h
  . rename_i g1 e1;exact Ms (hS.t ct hK h1 e1) (by rw[fN rfl];exact hS.b ct gQ hK h2 h)
  . rename_i g1 e1;exact Ms (hS.t ct hK h1 e1) (by rw[fR i7];exact hS.b ct gQ hK h3 h)
  . cases h
 |loop h1 h2 h3=>
  unfold aE at h;dsimp only at h;split at h
  . cases h
  .
   rename_i hb;split at h
   . rename_i items g1 e1;exact P9 (sf ct) ct.calm (Fy hS ct hK (Nb h1) h2 e1) (FG ct hK h1 λi hi hm=>hb (by rw[List.any_eq_true];exact⟨i,hi,u8 hm⟩)) (oB (λe=>hS.b ct gQ hK h3 e) h) λy=>h2.folded y
   . cases h
 | «while» h1 h2=>exact Dl (sf ct) (wL (λe=>hS.t ct hK h1 e) (λe=>hS.b ct gQ hK h2 e) h)
 |raise h1 h2 h3=>cases h
 |stuck=>cases h
theorem wM(hS:jq P rn)(ct:aX P k X c)(gQ:c.df=true)(hK:z.K=X.K){ss:List Stmt}{x:Sm}{g g':G}{f:Fl}(h:Fe P (Cm P c) (Br P c) c ss x)(e:aE rn z.bor k x g=some (f,g')):lQ X z ss g f g':=by
 cases h with
 |@rows y x mn a b tn im it iy ia ib scope N' kb j lp px rp mp Ug Es ap py pa pb iA y1 y2 a1 a2 b1 b2 T9 Ub My MF Mz MJ Ua Uc Er rpos yr tp tk h1 h2 h3 h4 h5 h6 h7 h8 h9 h10=>
  unfold aE at e;dsimp only at e;split at e
  .
   rename_i m ak gm gt;split at e
   .
    rename_i gy ga gb;split at e
    .
     rename_i hm;split at e
     .
      rename_i ll hF;cases e;have hl:c.sc.names.lookup y=some .local:=by have:=h3.2.1;unfold Ko at this;simp only[eP]at this;exact eq_of_beq this.1.1
      have dj:eG c y=true:=by unfold eG;rw[hl]
      obtain⟨m,rfl⟩:∃n:Nat,m=n:=⟨m.toNat,by lia⟩
      rw[tJ]at hF;obtain⟨dm,cm⟩:=bD h1.2.2;obtain⟨dt,W8⟩:=bD h2.2.2;obtain⟨dy,cy⟩:=bD h3.2.2;obtain⟨da,ca⟩:=bD h4.1.2.2;obtain⟨db,cb⟩:=bD h5.1.2.2;have ny:=ct.nm h3.1 dj;exact wF (sf ct) hK h7.1 (by rw[ct.N];exact iI h7.2.2.1) (iJ ct h7.2.1) ct.calm (λbk=>(ct.blk h7.2.2.2.1 bk).nm (by rw[ct.N];exact h7.2.2.2.2.1) h7.2.2.2.2.2) (ct.jA _ h8.2) (ct.md.bn _ h8.1) (by rw[ct.N];exact h1.1) (ct.vis h1.2.1) dm cm gm ⋯ ny.nd ny.ix (ct.QH _ hl) dy cy gy (by rw[oE ct gQ dj,h3.2.1])
       (ct.nm h4.1.1 h4.2) (ct.vis h4.1.2.1) da ca (ct.nm h5.1.1 h5.2) (ct.vis h5.1.2.1) db cb (by rw[ct.N];exact h2.1) (ct.vis h2.2.1) dt W8 gt ga gb h6.1 h6.2.1 h6.2.2 h9 h10 hF
     . cases e
    . cases e
   . cases e
  . cases e
 |@mk y v fx ic fi ir l ls e0 es ss st scope N' kb j pF op rhs ret b py lp pos fp vp cp tp ip Es cmp h1 h2 h3 h4 h5 h6 h7 h8 h9 h10 h11=>
  unfold aE at e;dsimp only at e;split at e
  .
   rename_i hg;split at e
   .
    rename_i ds gx e1;split at e
    .
     rename_i r2 g2 e2;split at e
     .
      rename_i d2 p2;split at e
      .
       rename_i cc e3;obtain⟨ds',hr,⟨q,cc0,mk⟩,hm,he⟩:=hS.g (fp:=fp) (vp:=vp) (cp:=cp) ct hK h6 h8 e1;cases hr;obtain⟨dy,cdy⟩:=bD h4;have hN:X.N[ic]?=some y:=by rw[ct.N];exact h1
       have vy:=ct.vis h3;have Uk:=ct.nm h1 h2;have Ng:∃t,PE X (.ListComp (.Call (.Name fx fp) [.Name v vp] [] cp) [⟨.Name v tp,.Name y ip,[],0⟩] scope Es) t/\∀σ H M0 H0 Q,LL X z g iW ic M0 H0 (l::ls) σ H->Kn z g σ M0 H0 (.new ds) Q->t σ H Q:=by refine uz h8.lt (by rw[ct.N];exact iI h8.nm) (iJ ct h8.bl) ct.calm hN vy dy cdy (λbk=>(ct.blk h8.nd bk).nm (by rw[ct.N];exact h8.ix) h8.st) (by simp only[kS];lia) he
       have Ip:=bq (hS.e ct hK h9 e2);cases h11 with
       |ite hs=>
        rename_i s1 x1 ipos;rw[fR ⋯]at e;refine lC hK mk Uk.nd hN Uk.lc Uk.fn vy dy cdy hg h5 hm h7 (En Ng Ip p2 (jl hK ct.room e3) h10 ?_);cases cc with
        |true=>rw[fN rfl]at e;exact hS.b ct gQ hK (.cons hs .nil) e
        |false=>rw[fR ⋯]at e;cases e;exact Dc
       |ret=>rw[fN rfl]at e;cases e;exact lC hK mk Uk.nd hN Uk.lc Uk.fn vy dy cdy hg h5 hm h7 (z9 Ng Ip p2 (jl hK ct.room e3) h10)
      . cases e
     . cases e
    . cases e
   . cases e
  . cases e
theorem oG(hS:jq P rn)(ct:aX P k X c)(gQ:c.df=true)(hK:z.K=X.K):∀{jB:List Stmt}{xs:List Sm}{g g':G}{f:Fl},vo P c jB xs->bN rn z.bor k xs g=some (f,g')->dX X z jB g f g'
 |_,_,_,_,_,.nil,h=>by cases h;exact Dc
 |_,_,_,_,f,.grp h1 h2,h=>by
  unfold bN at h;split at h
  . rename_i g1 e1;exact (wM hS ct gQ hK h1 e1).bk (oG hS ct gQ hK h2 h)
  . rename_i hn e1;cases h;exact (wM hS ct gQ hK h1 e1).end λe=>hn e
  . cases h
 |_,_,_,_,f,.cons h1 h2,h=>by
  unfold bN at h;split at h
  . rename_i g1 e1;exact Jf (oF hS ct gQ hK h1 e1) (oG hS ct gQ hK h2 h)
  .
   rename_i hn e1;cases h;have q:=oF hS ct gQ hK h1 e1;cases f with
   |nx=>exact absurd rfl hn
   |rt r=>exact PX q
   |bk=>exact P0 q
   |ct=>exact P1 q
  . cases h
end
theorem Lb{P:Pg}{k:Nat}{prog:Program}{w:World}{K:Frag}{mg:Str->Option Value}{base:Heap}{N ps:List Str}{qual:Str}{scope:Scope}{f:Addr}{bE:Value}{A:Around}{outer:List Env}{s:Shared}{H:Hp}{E:XK}
  (S:bV N ps scope) (md:rT P K mg) (bI:PySem.W.codeIn K bE qual=true) (hr:cG k (A.deeper (envOfC qual scope s⁻¹ f bE))):K5 P k (eZ (Bm prog w) prog w K mg base N qual scope f bE A outer s H E) ⟨N,scope,true,qual⟩:=by
 refine⟨⟨rfl,S.nd,λx e=>e,λx e=>e,λx e=>e,λ_ x e=>e,λx _=>rfl,λ_=>?_,rfl,rfl,md,hr,λe h=>⟨by have e:qual = "law" :=e;subst e;rfl,md.lam h _ (by have e:qual = "law" :=e;exact e▸bI)⟩⟩,rfl,PassesOwn.leaving⟩
 show (if scope.kind.isAnnotationScope then ScopeKind.function else scope.kind)=.function
 rw[S.kind];rfl
section
theorem oH(hS:jq P rn)(hX:kM P rn)(cx:K5 P k X c)(hK:z.K=X.K)(hC:jd P X.mg ci C):∀{es:List Expr}{xs:List Ex}{g g':G},Bq P c es xs->xArgs rn z.bor k xs g=some (ci,g')->V0 X z es g C g'
 |_,_,_,_,.nil,h=>by cases h
 |_,_,_,_,.cons h1 h2,h=>by
  unfold xArgs at h;split at h
  . rename_i e1;cases h;exact JF (hX.x cx hK hC h1 e1) (h1.star _)
  .
   split at h
   . rename_i r g1 e1;exact JG (hS.e (X:=X.kZ) cx.ct hK h1 e1).lift (oH hS hX cx hK hC h2 h) (h1.star _)
   . cases h
theorem FW(hS:jq P rn)(hX:kM P rn){fns:List Fx}(hF:fH P fns)(cx:K5 P k X c)(hK:z.K=X.K)(hC:jd P X.mg ci C){e:Expr}{x:Ex}{g g':G}(hc:Cm P c e x)(h:uD rn z.bor k fns x g=some (ci,g')):Dr X z e g C g':=by
 have ct:=cx.ct;cases hc.out with
 |@call x f fi e es xs p pos h1 h2 h3 h4=>
  subst h2;have dj:starEach (e::es) X.env=(false,eval e X.env)::starEach es X.env:=by cases h4 with |cons hh _=>exact hh.star _
  have iB:(backTo pos (starEach es X.env)).any (·.1)=false:=by cases h4 with |cons _ hh=>exact hh.plain
  obtain⟨fa,fd,hm,Ul,Ry,hB,je⟩:=ct.md.fn _ fi h1;unfold uD at h;dsimp only at h;split at h
  .
   rename_i r e1;cases h;cases k with
   |zero=>
    have F:iO X.prog X.w X.K X.mg X.base sP (0+1) fa fd fi.ps (Jk X.K fi.N fi.ps.length λ_ _ _ _=>False):=xX Ul Ry λ_ _ _ _ _ _ _ _ _ _ _ _ _ h=>h.elim
    obtain⟨t,q,kk⟩:=oH hS hX cx hK hC h4 e1;refine⟨_,?_,λσ As M H Q s ac=>kk σ As M H (λ_ _=>False) s ac⟩
    intro ah s σ H Q I ht;refine oS (eU I (ct.jA _ h3) hm ?_ je);exact AA (h₀:=X.base) I.ok.mod.Bg Ul.kp (bQ (q pos ah s σ H _ I ht) λus s1 ⟨_,_,_,_,h⟩=>h.elim) dj iB
   |succ k'=>
    have F:iO X.prog X.w X.K X.mg X.base sP (k'+1) fa fd fi.ps (Jk X.K fi.N fi.ps.length λ_ _ _ _=>False):=xX Ul Ry λ_ _ _ _ _ _ _ _ _ _ _ _ _ h=>h.elim
    exact Du F (oH hS hX cx hK hC h4 e1) ct.room (ct.jA _ h3) hm Ul.kp hB je dj iB
  .
   cases sO:fns[f]? with
   |none=>rw[sO]at h;cases h
   |some fx=>
    rw[sO]at h;cases k with
    |zero=>cases h
    |succ k'=>
     dsimp only at h;split at h
     .
      rename_i rs g1 e1;have RN:=hF _ _ _ h1 sO;have F:iO X.prog X.w X.K X.mg X.base (Bm X.prog X.w) (k'+1) fa fd fi.ps (Z1 X.K fi.N fi.ps.length λbor g C g'=>∃ci,jd P X.mg ci C/\rn.xb bor k' fx.body g=some (ci,g')):=by
       refine Ql Ul Ry λbE A outer s H E bI hr z' g C g' T8 ⟨ci,hci,hrun⟩=>?_
       exact hX.b (Lb Ry ct.md bI hr) rfl T8 hci RN.body hrun
      unfold uC at h;split at h
      .
       rename_i hl;split at h
       . cases h
       .
        rename_i gs e2;split at h
        .
         rename_i ci' gc e3;split at h
         .
          rename_i gO e4;cases h;have ha:=jU hS (X:=X.kZ) ct hK h4 e1;have ha':cQ X z (e::es) g rs g1:=by
           obtain⟨t,q,kk⟩:=ha;refine⟨t,λpos ah s σ H Q I hw=>?_,kk⟩
           exact lS (q pos ah s σ H Q (I.wish _) hw) (λ_ _ ⟨v,H',I',r,q⟩=>⟨v,H',I'.cS,r,q⟩) λ_ _ z=>False.elim z
          exact JM F hK cx.ex ct.room (ct.jA _ h3) hm Ul.kp hB ha' (by rw[hl.1,RN.np]) e2 hl.2 ⟨ci,hC,by rw[<- RN.n];exact e3⟩ e4 je dj iB
         . cases h
        . cases h
      . cases h
     . cases h
 |_=>cases h
theorem Ak(hX:kM P rn)(cx:K5 P k X c)(hK:z.K=X.K)(hC:jd P X.mg ci C){e:Expr}{x:Ex}{g g':G}(hc:Cm P c e x)(h:rS rn z.bor k x g=some (ci,g')):T3 X z e g C g':=by
 cases hc.out with
 |not h1=>exact JD (hX.t cx hK hC h1 h)
 |call h1 h2 h3 h4=>exact Qi (hX.x cx hK hC hc h) λ_=>rfl
 |_=>cases h
theorem fT.lift{st:Stmt}{g g':G}{f:Fl}(h:fT X.kZ z st g f g'):fT X z st g f g':=by
 obtain⟨t,q,k⟩:=h;refine⟨t,λah s σ H D I hw=>?_,k⟩
 exact lS (q ah s σ H D (I.wish _) hw) (λ_ _ q=>q.cS) λ_ _ z=>False.elim z
theorem Al(hS:jq P rn)(hX:kM P rn)(cx:K5 P k X c)(gQ:c.df=true)(hK:z.K=X.K)(hC:jd P X.mg ci C){s:Stmt}{x:Sm}{g g':G}(hc:Br P c s x)(h:n9 rn z.bor k x g=some (ci,g')):Qh X z s g C g':=by
 have ct:=cx.ct;cases hc.out with
 |ret h1=>exact Qj (hX.x cx hK hC h1 h)
 |expr h1 h2=>exact JH (hX.x cx hK hC h1 h) (g9 h1 h2 _ _ _)
 |ite h1 h2 h3=>
  unfold n9 at h;dsimp only at h;split at h
  . rename_i e1;cases h;exact Qk (hX.t cx hK hC h1 e1)
  .
   split at h
   . rename_i g1 e1;exact Ds (v:=true) (hS.t (X:=X.kZ) ct hK h1 e1).lift (by rw[fN rfl];exact hX.b cx gQ hK hC h2 h)
   . rename_i g1 e1;exact Ds (v:=false) (hS.t (X:=X.kZ) ct hK h1 e1).lift (by rw[fR i7];exact hX.b cx gQ hK hC h3 h)
   . cases h
 |@raise x ci' m xm np aU pos h1 h2 h3=>
  unfold n9 at h;dsimp only at h;split at h
  .
   rename_i d g1 e1;cases h;obtain⟨y,q1,q2⟩:=hC;rw[h1]at q1;cases q1;obtain⟨je,C',q3,q4⟩:=ct.md.cls x (i8 h1);have e:C'=C:=by have:=q3.symm.trans q2;cases this;rfl
   subst e;exact Dt ct.calm cx.ex q4 (ct.jA _ h2) q2 je (dW (bh hS (X:=X.kZ) ct hK h3 e1).lift ez (h3.star _)) (h3.star _)
  . cases h
 |_=>cases h
theorem kN(hS:jq P rn)(hX:kM P rn)(cx:K5 P k X c)(gQ:c.df=true)(hK:z.K=X.K)(hC:jd P X.mg ci C):∀{jB:List Stmt}{xs:List Sm}{g g':G},vo P c jB xs->jk rn z.bor k xs g=some (ci,g')->JC X z jB g C g'
 |_,_,_,_,.nil,h=>by cases h
 |_,_,_,_,.grp h1 h2,h=>by
  unfold jk at h;split at h
  . rename_i e1;cases h1 <;> cases e1
  .
   split at h
   . rename_i g1 e1;exact ((wM (X:=X.kZ) hS cx.ct gQ hK h1 e1).lift).ra (kN hS hX cx gQ hK hC h2 h)
   . cases h
 |_,_,_,_,.cons h1 h2,h=>by
  unfold jk at h;split at h
  . rename_i e1;cases h;exact JK (Al hS hX cx gQ hK hC h1 e1)
  .
   split at h
   . rename_i g1 e1;exact JL (oF (X:=X.kZ) hS cx.ct gQ hK h1 e1).lift (kN hS hX cx gQ hK hC h2 h)
   . cases h
end
theorem uL{P:Pg}{fns:List Fx}(hF:fH P fns):∀n,jq P (run fns n)/\kM P (run fns n)
 | 0=>⟨⟨λ_ _ _ h=>(by cases h),λ_ _ _ h=>(by cases h),λ_ _ _ _ h=>(by cases h),λ_ _ _ _ h=>(by cases h)⟩,⟨λ_ _ _ _ h=>(by cases h),λ_ _ _ _ h=>(by cases h),λ_ _ _ _ _ h=>(by cases h)⟩⟩
 |n+1=>
  let ⟨a,b⟩:=uL hF n
  ⟨⟨λct hK hc h=>FP a b hF ct hK hc h,λct hK hc h=>FQ a ct hK hc h,λct gQ hK hc h=>oG a ct gQ hK hc h,λct hK hl B h=>FN a b hF ct hK hl B h⟩,
  ⟨λcx hK hC hc h=>FW a b hF cx hK hC hc h,λcx hK hC hc h=>Ak b cx hK hC hc h,λcx gQ hK hC hc h=>kN a b cx gQ hK hC hc h⟩⟩
theorem Lc{P:Pg}{fns:List Fx}(hF:fH P fns)(n:Nat):jq P (run fns n):=(uL hF n).1
def cR(K:Frag)(mg:Str->Option Value)(fi:Fi):Prop:=
 ∃f fd,mg fi.name=some (.ref f)/\Hs K fi.name fi.qual fi.st f fd/\bV fi.N fi.ps (aD fi.st)/\(∀us:List Value,us.length=fi.ps.length->bindArgs fd ⟨us,[]⟩=pure (fi.ps.zip us))/\(fi.name==("__debug__":Str))=false
def Ld(K:Frag)(mg:Str->Option Value)(p:Str×D):Prop:=(p.1==("__debug__":Str))=false/\∃v u,mg p.1=some u/\RelV v u/\∀M H,Rep K M H p.2 v
inductive All{α:Type}(p:α->Prop):List α->Prop
 |nil:All p []
 |cons {a:α}{l:List α}:p a->All p l->All p (a::l)
theorem All.mem{α:Type}{p:α->Prop}:∀{l:List α},All p l->∀a∈l,p a
 |_,.nil,_,h=>nomatch h
 |_,.cons h t,a,hm=>(d0.mp hm).elim (λe=>e▸h) (All.mem t a)
structure RP(P:Pg)(K:Frag)(mg:Str->Option Value):Prop where
 lam:P.lam=true->∀bE,PySem.W.codeIn K bE "law"=true->Ez K mg bE
 iV:∀(i:Nat) (C:Addr),P.iV[i]?=some C->∃x,P.cls[i]?=some x/\mg x=some (.ref C)/\fc K C/\Ht K C
 kt:P.lam=true->(P.kt==("__debug__":Str))=false/\∃D,mg P.kt=some (.ref D)/\fc K D/\∀C∈P.iV,uw K C D=true
 ups:∀(x:Str) (l:List (Addr×Bool)),(x,l)∈P.ups->(x==("__debug__":Str))=false/\∃cv,((mg x=some cv/\∃D,cv=.ref D)\/(x∈P.bn/\x≠ "__name__" /\bootBuiltins x=some cv/\∃n,cv=.type n))/\PySem.W.kitOne K (.type "NoneType") cv=some false/\∀C b,l.lookup C=some b->PySem.W.kitOne K (.ref C) cv=some b
theorem Xa{P:Pg}{K:Frag}{mg:Str->Option Value}(h1:All (cR K mg) P.fn)(h2:All (Ld K mg) P.ct)(h3:All (λx=>mg x=none) P.bn)(h4:All (λx=>(x==("__debug__":Str))=false/\∃C,mg x=some (.ref C)/\fc K C) P.cls)(h5:RP P K mg):rT P K mg:=
 ⟨λi fi e=>let ⟨f,fd,q1,q2,q3,q4,q5⟩:=h1.mem fi (i8 e);⟨f,fd,q1,q2,q3,.all q4,q5⟩,λx d h=>h2.mem (x,d) h,λx h=>h3.mem x h,λx h=>h4.mem x h,h5.lam,h5.iV,h5.kt,h5.ups⟩
def BdOk(fi:Fi):Prop:=∀(kV doc pm:Value) (an:Option Addr) (bE ct:Value) (us:List Value),us.length=fi.ps.length->bindArgs (PySem.W.fnOf fi.name fi.qual (iD fi.st) (bA fi.st) (aD fi.st) .none kV doc pm an bE ct) ⟨us,[]⟩=pure (fi.ps.zip us)
section
variable{K:Frag}
theorem Xc{fi:Fi}{oc:Value}{od an:Option Addr}{osl:Array (Option Value)}{kV doc pm bE ct:Value}(X:K.In h)(G:h.Ns mainGlobals mg)(a:PySem.W.nsIn K mainGlobals fi.name=some (some (.ref f)))
  (l:K.lookup f=some ⟨oc,od,.func (PySem.W.fnOf fi.name fi.qual (iD fi.st) (bA fi.st) (aD fi.st) .none kV doc pm an bE ct),osl⟩) (c:PySem.W.codeIn K bE fi.qual=true) (k:PySem.W.keepIn K (.ref f)=true)
  (sc:bV fi.N fi.ps (aD fi.st)) (hb:BdOk fi)
  (hd:(fi.name==("__debug__":Str))=false):cR K mg fi:=
 let F:=Oq (x:=fi.name) (qual:=fi.qual) (st:=fi.st) l c k
 ⟨f,_,B3 X G a,F,sc,hb kV doc pm an bE ct,hd⟩
theorem FZ{x:Str}{i:Int}{t:Tok}(X:K.In h)(G:h.Ns mainGlobals mg)(a:PySem.W.nsIn K mainGlobals x=some (some (.int i t)))(hd:(x==("__debug__":Str))=false):Ld K mg (x,.int i):=
 ⟨hd,.int i,.int i t,B3 X G a,⟨t,rfl⟩,λ_ _=>.int i⟩
theorem Xd{x:Str}{C:Addr}(X:K.In h)(G:h.Ns mainGlobals mg)(a:PySem.W.nsIn K mainGlobals x=some (some (.ref C)))(q:fc K C)(hd:(x==("__debug__":Str))=false):(x==("__debug__":Str))=false/\∃C,mg x=some (.ref C)/\fc K C:=
 ⟨hd,C,B3 X G a,q⟩
theorem RQ{P:Pg}{fns:List Fx}{prog:Program}{w:World}{base:Heap}(hF:fH P fns)(md:rT P K mg){i:Nat}{fi:Fi}{fx:Fx}{x:Str}{fd:FuncData}{n k:Nat}(W7:P.fn[i]?=some fi)(sO:fns[i]?=some fx)(hp:fi.ps=[x])(F:Hs K fi.name fi.qual fi.st f fd)(sc:bV fi.N fi.ps (aD fi.st)) :
  iO prog w K mg base sP (k+1) f fd [x] (Jk K fi.N 1 λbor g r g'=>(run fns n).b bor k fx.body g=some (.rt r,g')):=by
 have:=xX (P:=prog) (w:=w) (mg:=mg) (base:=base) (k:=k) (N:=fi.N) (ps:=fi.ps) (run:=λbor g r g'=>(run fns n).b bor k fx.body g=some (.rt r,g')) F sc λbE A outer s H E bI hr z g r g' hK hrun=>
  ⟨_,(Lc hF n).b (oA sc md bI hr) rfl hK (hF i fi fx W7 sO).body hrun,.inl rfl⟩
 rw[hp]at this;exact this
theorem Ga{P:Pg}{fns:List Fx}{prog:Program}{w:World}(hF:fH P fns)(md:rT P K mg){i:Nat}{fi:Fi}{fx:Fx}{x:Str}{n k:Nat}(W7:P.fn[i]?=some fi)(sO:fns[i]?=some fx)(hp:fi.ps=[x])(h:cR K mg fi)(hm:mg fi.name=some (.ref f)) :
  ∃fd:FuncData,(∀(s:Shared) (u:Value),BindsTo s fd ⟨[u],[]⟩ [(x,u)])/\∀base:Heap,K.In base->base.Ns mainGlobals mg->iO prog w K mg base sP (k+1) f fd [x] (Jk K fi.N 1 λbor g r g'=>(run fns n).b bor k fx.body g=some (.rt r,g')):=by
 obtain⟨f',fd,q1,q2,q3,q4,q5⟩:=h;rw[hm]at q1;cases q1;refine⟨fd,λs u=>.of_eq ?_,λbase _ _=>RQ hF md W7 sO hp q2 q3⟩
 have:=q4 [u] (by rw[hp];rfl)
 rw[hp]at this;exact this
theorem RT{N:List Str}{run:List Nat->G->R->G->Prop}(hev:∀ns:List Int,ns.length<=63->∃g',run [] (dh N.length [.dat (.fix (ns.map .int))]) (.dat (.bl true)) g')(K:Frag)(H:Hp)(a:Addr)(ns:List Int)(hl:ns.length<=63)(hO:yd ((cH K).map (·.1)) H)(hS:bX K H a (ns.map V.int)) :
  Jk K N 1 run [.ref a] H (λv _=>v=.bl true) λ_ _ _=>False:=by
 obtain⟨g',hg⟩:=hev ns hl;have fx:ng K ((cH K).map (·.1)) H a (ns.map V.int):=by
  rcases hS with h |h
  .
   rcases hO a with ⟨_,z⟩ |⟨na,z⟩
   . rcases h with h |⟨o,h⟩ <;> (rw[z]at h;cases h)
   .
    refine .inl ⟨na,?_⟩;rcases h with h |h
    .
     rcases z with z |⟨o,xs,z⟩
     . rw[z]at h;cases h
     . rw[z]at h;cases h
    . exact h
  . exact .inr (.inr h)
 have rr:∀ns:List Int,aH K ((cH K).map (·.1)) H (ns.map D.int) (ns.map V.int):=λns=>by
  induction ns with
  |nil=>exact .nil
  |cons n ns ih=>exact .cons (.int n) ih
 have tb:∀p∈cH K,H p.1=some (.j3 #[]):=λp hp=>by
  rcases hO p.1 with ⟨_,z⟩ |⟨z,_⟩
  . exact z
  . exact absurd (i3.mpr ⟨p,hp,rfl⟩) z
 refine⟨rfl,⟨K,H,(cH K).map (·.1),[],cH K⟩,dh N.length [.dat (.fix (ns.map .int))],g',[],(cH K).map (·.1),.dat (.bl true),rfl,?_,hg,λv σ' aA M' H' s' st R=>eW R⟩
 refine⟨?_,oI,(λa ha=>nomatch ha),λi b l e1 e2=>?_,(λm hm=>.inr hm),(λb o e _ _=>e),(λm hm=>hm),(λm hm=>?_),(λb hb=>nomatch hb),(λp hp=>nomatch hp),(λp hp=>⟨#[],tb p hp,trivial,λpos cv e=>nomatch e⟩),(λp hp=>i3.mpr ⟨p,hp,rfl⟩),rfl⟩
 . exact Slots.append (A1:=[]) (.dat (.fix fx (rr ns)) .nil) (Slots.Yb _)
 .
  exfalso;unfold dh at e1;cases i with
  |zero=>simp at e1
  |succ i=>rw[d6 ⋯]at e1;have:=i8 e1;rw[t7]at this;exact absurd this.2 ⋯
 . obtain⟨p,hp,rfl⟩:=i3.mp hm;intro z;have z:H p.1=none:=z;rw[tb p hp]at z;cases z
end
noncomputable abbrev Fi.ct(fi:Fi):Ct:=⟨fi.N,aD fi.st,true,fi.qual⟩
def yG(P:Pg)(fi:Fi)(fx:Fx):List Stmt:=pK (Rt P 99 (M8 P 99 20 fi.ct) fi.ct) (M8 P 99 20 fi.ct) fx.body (bA fi.st)
def fxB(P:Pg)(fi:Fi)(fx:Fx):Bool:=decide (fx.np=fi.ps.length)&&(decide (fx.n=fi.N.length)&&HJ (Ru P 99 (M9 P 99 20 fi.ct) fi.ct) (M9 P 99 20 fi.ct) fx.body (bA fi.st))
theorem RV{P:Pg}{fi:Fi}{fx:Fx}(e:yG P fi fx=bA fi.st)(h:fxB P fi fx=true):K6 P fi fx:=⟨dec (aj h).1,dec (aj (aj h).2).1,Eq.mp (congrArg (λl=>vo P fi.ct l fx.body) e) (vo.mk (aj (aj h).2).2)⟩
def Gb(P:Pg):List Fi->List Fx->Bool
 |fi::l,fx::r=>fxB P fi fx&&Gb P l r
 |_,_=>true
theorem Le{P:Pg}{l:List Fi}{r:List Fx}(e:List.zipWith (yG P) l r=l.map λfi=>bA fi.st)(h:Gb P l r=true)(f:Nat)(fi:Fi)(fx:Fx)(h1:l[f]?=some fi)(h2:r[f]?=some fx):K6 P fi fx:=by
 induction l generalizing r f with
 |nil=>cases h1
 |cons a l ih=>cases r with
  |nil=>cases h2
  |cons b r=>
   have h:(fxB P a b&&Gb P l r)=true:=h;cases f with
   |zero=>cases h1;cases h2;exact RV (List.cons.inj e).1 (aj h).1
   |succ f=>exact ih (List.cons.inj e).2 (aj h).2 f h1 h2
theorem RW{P:Pg}{fns:List Fx}(h:Gb P P.fn fns=true)(e:List.zipWith (yG P) P.fn fns=P.fn.map λfi=>bA fi.st):fH P fns:=λf fi fx h1 h2=>Le e h f fi fx h1 h2
theorem Xe{us:List Value}(h:us.length=1):∃a,us=[a]:=by
 cases us with
 |nil=>cases h
 |cons a us=>cases us with
  |nil=>exact⟨a,rfl⟩
  |cons _ _=>cases h
theorem Xg{us:List Value}(h:us.length=2):∃a b,us=[a,b]:=by
 cases us with
 |nil=>cases h
 |cons a us=>obtain⟨b,rfl⟩:=Xe (BI h);exact⟨a,b,rfl⟩
theorem len3{us:List Value}(h:us.length=3):∃a b c,us=[a,b,c]:=by
 cases us with
 |nil=>cases h
 |cons a us=>obtain⟨b,c,rfl⟩:=Xg (BI h);exact⟨a,b,c,rfl⟩
def dH(st:Stmt):Fi:=match st with
 |.FunctionDef name args _ _ _ _ scope _ _ _=>⟨name,name,st,(args.args.map (·.arg))++scope.names.filterMap (λy=>if (y.2==.local||y.2==.cell)&&!(args.args.map (·.arg)).contains y.1 then some y.1 else none),args.args.map (·.arg)⟩
 |st=>⟨"", "",st,[],[]⟩
section
theorem uM(ds:List D):∀i,vars i (ds.map R.dat)=[]:=by
 induction ds with
 |nil=>intro i;rfl
 |cons d ds ih=>intro i;exact ih (i+1)
theorem uN(ds:List D):bY (ds.map R.dat) g1=some (ds.map .dat):=by
 induction ds with
 |nil=>rfl
 |cons d ds ih=>
  show (match bY (ds.map R.dat) g1 with |some gs=>some (Slot.dat d::gs) |none=>none)=_
  rw[ih];rfl
noncomputable def Um:List D->G
 | []=>[]
 |d::l=>.dat d::Um l
theorem yH(ds:List D):Um ds=ds.map .dat:=by
 induction ds with
 |nil=>rfl
 |cons d ds ih=>rw[Um,ih];rfl
def cY(rn:Rn)(k:Nat)(fx:Fx)(ds:List D):Option R:=match rn.b [] k fx.body (dh fx.n (Um ds))with
 |some (.rt r,gc)=>cV [] gc r
 |some (.nx,_)=>some (.dat .non)
 |_=>none
theorem kO{fx:Fx}{ds:List D}(hl:ds.length=fx.np):aI rn fx k (ds.map .dat) g1=(cY rn k fx ds).map λr=>(r,g1):=by
 unfold aI cY;rw[uM,uN,yH];simp only[eR,hl,List.map_nil,oI,and_self,Ap];cases rn.b [] k fx.body (dh fx.n (ds.map .dat))with
 |none=>rfl
 |some p=>
  obtain⟨f,gc⟩:=p;cases f with
  |nx=>rfl
  |rt r=>simp only[back];cases cV [] gc r <;> rfl
  |bk=>rfl
  |ct=>rfl
noncomputable def gM(g m:G)(acc:List D):G:=g++(m++[.own acc])
theorem iL{g m:G}{acc:List D}{i:Nat}(h:i<g.length):(gM g m acc)[i]?=g[i]?:=by unfold gM;rw[dS h]
theorem fY{g m:G}{acc:List D}{i:Nat}(h:i<m.length):(gM g m acc)[g.length+i]?=m[i]?:=by unfold gM;rw[d6 ⋯,i6,dS h]
theorem iM{g m:G}{acc:List D}:(gM g m acc)[g.length+m.length]?=some (.own acc):=by unfold gM;rw[d6 ⋯,i6,d6 (d5 _),BM];rfl
theorem fZ{g m:G}{acc:List D}{i:Nat}{s:Slot}(h:i<m.length):(gM g m acc).set (g.length+i) s=gM g (m.set i s) acc:=by unfold gM;rw[qS _ _ ⋯,i6,AM _ _ h]
theorem ig{g m:G}{acc acc':List D}:(gM g m acc).set (g.length+m.length) (.own acc')=gM g m acc':=by unfold gM;rw[qS _ _ ⋯,i6,qS _ _ (d5 _),BM];rfl
theorem sr{g m:G}{acc:List D}:(gM g m acc).take g.length=g:=by unfold gM;simp
theorem Gd{kk:Nat}:gC kk g=gM g (List.replicate kk .no) []:=rfl
theorem su{α:Type}{T:Tg}{last kk:Nat}{c:Option Ex}{e:Ex}(eK:α->D)(f:α->D)(p:α->Bool)(st:α->G->G)(gY:last=g.length+kk)(dj:∀d m,m.length=kk->(st d m).length=kk) :
  ∀(items:List α) (m:G) (acc:List D),m.length=kk->acc.length+items.length<=lim->
  (∀d∈items,∀m acc,m.length=kk->T.set (eK d) (gM g m acc)=some (gM g (st d m) acc))->
  (∀d∈items,∀m acc,m.length=kk->Bp rn bor k c (gM g (st d m) acc)=some (p d,gM g (st d m) acc))->
  (∀d∈items,p d=true->∀m acc,m.length=kk->gP rn bor k e (gM g (st d m) acc)=some (f d,gM g (st d m) acc))->
  ∃m',m'.length=kk/\Ad rn bor k T last c e (items.map eK) (gM g m acc)=some (gM g m' (acc++(items.filter p).map f))
 | [],m,acc,hm,_,_,_,_=>⟨m,hm,by simp[Ad]⟩
 |d::items,m,acc,hm,hl,hT,hi,he=>by
  rw[kS]at hl;have q1:=hT d dA m acc hm;have q2:=hi d dA m acc hm;have hm':=dj d m hm;rw[List.map_cons];unfold Ad;rw[q1];dsimp only;rw[q2];cases hp:p d with
  |false=>
   dsimp only;obtain⟨m',w1,w2⟩:=su eK f p st gY dj items (st d m) acc hm' ⋯ (λx hx=>hT x (b0 _ hx)) (λx hx=>hi x (b0 _ hx)) (λx hx=>he x (b0 _ hx))
   exact⟨m',w1,by rw[w2,List.filter_cons,hp];rfl⟩
  |true=>
   have q3:=he d dA hp m acc hm;dsimp only;rw[q3];dsimp only;have q4:(gM g (st d m) acc)[last]?=some (.own acc):=by rw[gY,<- hm'];exact iM
   rw[q4];dsimp only;rw[fN ⋯];have q5:(gM g (st d m) acc).set last (.own (acc++[f d]))=gM g (st d m) (acc++[f d]):=by rw[gY,<- hm'];exact ig
   rw[q5];obtain⟨m',w1,w2⟩:=su eK f p st gY dj items (st d m) (acc++[f d]) hm' (by rw[gL,AD];lia) (λx hx=>hT x (b0 _ hx)) (λx hx=>hi x (b0 _ hx)) (λx hx=>he x (b0 _ hx))
   refine⟨m',w1,?_⟩;rw[w2,List.filter_cons,hp];simp
theorem qA{α:Type}{kk nn:Nat}{T:Tg}{it:Ex}{c:Option Ex}{e:Ex}(items:List α)(eK:α->D)(f:α->D)(p:α->Bool)(st:α->G->G)(hw:fX rn bor k T.kJ it g=some (items.map eK,g1))(hn:nn=g1.length)(hb:(T.ix.any λi=>decide (i∈bor))=false)(hl:items.length<=lim)(dj:∀d m,m.length=kk->(st d m).length=kk)
  (hT:∀d∈items,∀m acc,m.length=kk->T.set (eK d) (gM g1 m acc)=some (gM g1 (st d m) acc))
  (hi:∀d∈items,∀m acc,m.length=kk->Bp rn bor k c (gM g1 (st d m) acc)=some (p d,gM g1 (st d m) acc))
  (he:∀d∈items,p d=true->∀m acc,m.length=kk->gP rn bor k e (gM g1 (st d m) acc)=some (f d,gM g1 (st d m) acc)) :
  bZ rn bor k nn kk T it c e g=some ((items.filter p).map f,g1):=by
 subst hn;obtain⟨m',w1,w2⟩:=su (rn:=rn) (bor:=bor) (k:=k) (g:=g1) (last:=g1.length+kk) eK f p st rfl dj items (List.replicate kk .no) [] ⋯ (by simpa using hl) hT hi he
 unfold bZ;rw[hw];dsimp only;rw[fN ⟨rfl,hb⟩,Gd,w2];dsimp only;have:(gM g1 m' ([]++(items.filter p).map f))[g1.length+kk]?=some (.own ([]++(items.filter p).map f)):=by rw[<- w1];exact iM
 rw[this];dsimp only;rw[sr,v6]
theorem Ge{j kk:Nat}{d:D}{m:G}{acc:List D}(hj:g.length<=j)(hk:j - g.length<m.length):(Tg.nm j).set d (gM g m acc)=some (gM g (m.set (j - g.length) (.dat d)) acc):=by
 show some ((gM g m acc).set j (.dat d))=_;have:=fZ (g:=g) (acc:=acc) (s:=.dat d) hk;rw[show g.length+(j - g.length)=j by lia]at this
 rw[this]
def Lf(g:G)(j:Nat)(d:D)(G':G):Prop:=(∀i,i<g.length->G'[i]?=g[i]?)/\G'[j]?=some (.dat d)
theorem Nh{α:Type}{kk nn j:Nat}{it:Ex}{c:Option Ex}{e:Ex}(items:List α)(eK:α->D)(p:α->Bool)(f:α->D)(hw:fX rn bor k false it g=some (items.map eK,g1))(hn:nn=g1.length)(hj1:g1.length<=j)(hj2:j<g1.length+kk)(hb:j∉bor)(hl:items.length<=lim)
  (hi:∀a∈items,∀G',Lf g1 j (eK a) G'->Bp rn bor k c G'=some (p a,G')) (he:∀a∈items,p a=true->∀G',Lf g1 j (eK a) G'->gP rn bor k e G'=some (f a,G')) :
  bZ rn bor k nn kk (.nm j) it c e g=some ((items.filter p).map f,g1):=by
 have sees:∀(a:α) (m:G) (acc:List D),m.length=kk->Lf g1 j (eK a) (gM g1 (m.set (j - g1.length) (.dat (eK a))) acc):=λa m acc hm=>by
  refine⟨λi hi=>iL hi,?_⟩
  have:=fY (g:=g1) (m:=m.set (j - g1.length) (.dat (eK a))) (acc:=acc) (i:=j - g1.length) (by simp;lia)
  rw[show g1.length+(j - g1.length)=j by lia]at this
  rw[this,eQ ⋯]
 refine qA (T:=.nm j) items eK f p (λa m=>m.set (j - g1.length) (.dat (eK a))) hw hn (by simp[Tg.ix,hb]) hl (λd m hm=>by simpa using hm) (λa _ m acc hm=>Ge (kk:=kk) hj1 ⋯) (λa ha m acc hm=>hi a ha _ (sees a m acc hm)) λa ha hp m acc hm=>he a ha hp _ (sees a m acc hm)
theorem filter_all{α:Type}(l:List α):l.filter (λ_=>true)=l:=List.filter_eq_self.mpr λ_ _=>rfl
theorem lG{α:Type}{kk nn j:Nat}{it:Ex}{e:Ex}(items:List α)(eK:α->D)(f:α->D)(hw:fX rn bor k false it g=some (items.map eK,g1))(hn:nn=g1.length)(hj1:g1.length<=j)(hj2:j<g1.length+kk)(hb:j∉bor)(hl:items.length<=lim)
  (he:∀a∈items,∀G',Lf g1 j (eK a) G'->gP rn bor k e G'=some (f a,G')):bZ rn bor k nn kk (.nm j) it none e g=some (items.map f,g1):=by
 have:=Nh (c:=none) items eK (λ_=>true) f hw hn hj1 hj2 hb hl (λ_ _ _ _=>rfl) λa ha _ G' hG=>he a ha G' hG
 rw[filter_all]at this;exact this
def yI(g:G)(j1 j2:Nat)(d1 d2:D)(G':G):Prop:=(∀i,i<g.length->G'[i]?=g[i]?)/\G'[j1]?=some (.dat d1)/\G'[j2]?=some (.dat d2)
theorem Ni{α:Type}{kk nn j1 j2:Nat}{it:Ex}{c:Option Ex}{e:Ex}(items:List α)(iX jt:α->D)(p:α->Bool)(f:α->D)(hw:fX rn bor k true it g=some (items.map λa=>.tup [iX a,jt a],g1))(hn:nn=g1.length)(hj1:g1.length<=j1)(Xh:j1<g1.length+kk)(hj2:g1.length<=j2)(Xi:j2<g1.length+kk)(iC:j1≠j2)(hb1:j1∉bor)(hb2:j2∉bor)(hl:items.length<=lim)
  (hi:∀a∈items,∀G',yI g1 j1 j2 (iX a) (jt a) G'->Bp rn bor k c G'=some (p a,G')) (he:∀a∈items,p a=true->∀G',yI g1 j1 j2 (iX a) (jt a) G'->gP rn bor k e G'=some (f a,G')) :
  bZ rn bor k nn kk (.tp [j1,j2]) it c e g=some ((items.filter p).map f,g1):=by
 have sees:∀(a:α) (m:G) (acc:List D),m.length=kk->yI g1 j1 j2 (iX a) (jt a) (gM g1 ((m.set (j1 - g1.length) (.dat (iX a))).set (j2 - g1.length) (.dat (jt a))) acc):=λa m acc hm=>by
  refine⟨λi hi=>iL hi,?_,?_⟩
  .
   have:=fY (g:=g1) (m:=(m.set (j1 - g1.length) (.dat (iX a))).set (j2 - g1.length) (.dat (jt a))) (acc:=acc) (i:=j1 - g1.length) (by simp;lia)
   rw[show g1.length+(j1 - g1.length)=j1 by lia]at this
   rw[this,eC ⋯,eQ ⋯]
  .
   have:=fY (g:=g1) (m:=(m.set (j1 - g1.length) (.dat (iX a))).set (j2 - g1.length) (.dat (jt a))) (acc:=acc) (i:=j2 - g1.length) (by simp;lia)
   rw[show g1.length+(j2 - g1.length)=j2 by lia]at this
   rw[this,eQ (by simp;lia)]
 refine qA (T:=.tp [j1,j2]) items (λa=>.tup [iX a,jt a]) f p (λa m=>(m.set (j1 - g1.length) (.dat (iX a))).set (j2 - g1.length) (.dat (jt a))) hw hn (by simp[Tg.ix,hb1,hb2]) hl (λd m hm=>by simpa using hm) (λa _ m acc hm=>?_) (λa ha m acc hm=>hi a ha _ (sees a m acc hm)) λa ha hp m acc hm=>he a ha hp _ (sees a m acc hm)
 have q1:=fZ (g:=g1) (m:=m) (acc:=acc) (i:=j1 - g1.length) (s:=.dat (iX a)) ⋯;have q2:=fZ (g:=g1) (m:=m.set (j1 - g1.length) (.dat (iX a))) (acc:=acc) (i:=j2 - g1.length) (s:=.dat (jt a)) (by simp;lia)
 rw[show g1.length+(j1 - g1.length)=j1 by lia]at q1
 rw[show g1.length+(j2 - g1.length)=j2 by lia]at q2
 show some (((gM g1 m acc).set j1 (.dat (iX a))).set j2 (.dat (jt a)))=_;rw[q1,q2]
theorem Gf{α:Type}{kk nn j1 j2:Nat}{it:Ex}{e:Ex}(items:List α)(iX jt:α->D)(f:α->D)(hw:fX rn bor k true it g=some (items.map λa=>.tup [iX a,jt a],g1))(hn:nn=g1.length)(hj1:g1.length<=j1)(Xh:j1<g1.length+kk)(hj2:g1.length<=j2)(Xi:j2<g1.length+kk)(iC:j1≠j2)(hb1:j1∉bor)(hb2:j2∉bor)(hl:items.length<=lim)
  (he:∀a∈items,∀G',yI g1 j1 j2 (iX a) (jt a) G'->gP rn bor k e G'=some (f a,G')):bZ rn bor k nn kk (.tp [j1,j2]) it none e g=some (items.map f,g1):=by
 have:=Ni (c:=none) items iX jt (λ_=>true) f hw hn hj1 Xh hj2 Xi iC hb1 hb2 hl (λ_ _ _ _=>rfl) λa ha _ G' hG=>he a ha G' hG
 rw[filter_all]at this;exact this
theorem yJ{c:G->Option (Bool×G)}{b:G->Option (Fl×G)}(I:Nat->G->Prop)(step:∀m g,I (m+1) g->∃g1 g2,c g=some (true,g1)/\b g1=some (.nx,g2)/\I m g2)(fin:∀g,I 0 g->c g=some (false,g)) :
  ∀m N g,m<N->I m g->∃g',I 0 g'/\MK c b N g=some (.nx,g')
 | 0,N+1,g,_,h=>⟨g,h,by unfold MK;rw[fin g h]⟩
 |m+1,N+1,g,hN,h=>by
  obtain⟨g1,g2,q1,q2,q3⟩:=step m g h;obtain⟨g',w1,w2⟩:=yJ I step fin m N g2 ⋯ q3;exact⟨g',w1,by unfold MK;rw[q1];dsimp only;rw[q2];exact w2⟩
theorem cO{α:Type}{T:Tg}{b:G->Option (Fl×G)}(eK:α->D)(I:List α->G->Prop)(step:∀a l g,I (a::l) g->∃g1 g2,T.set (eK a) g=some g1/\b g1=some (.nx,g2)/\I l g2):∀l g,I l g->∃g',I [] g'/\n8 T b (l.map eK) g=some (.nx,g')
 | [],g,h=>⟨g,h,rfl⟩
 |a::l,g,h=>by
  obtain⟨g1,g2,q1,q2,q3⟩:=step a l g h;obtain⟨g',w1,w2⟩:=cO eK I step l g2 q3;exact⟨g',w1,by rw[List.map_cons];unfold n8;rw[q1];dsimp only;rw[q2];exact w2⟩
end
theorem ints_map(l:List Int):bL (l.map .int)=some l:=by
 induction l with
 |nil=>rfl
 |cons a l ih=>simp[bL,ih]
theorem Lg(l:List Bool):tN (l.map .bl)=some l:=by
 induction l with
 |nil=>rfl
 |cons a l ih=>simp[tN,ih]
theorem Gg(l:List (List Int))(h:∀x∈l,x≠[]):nY (l.map λx=>.tup (x.map .int))=some l:=by
 induction l with
 |nil=>rfl
 |cons a l ih=>
  have ha:=h a dA;cases a with
  |nil=>exact absurd rfl ha
  |cons x a=>
   have:=ints_map (x::a);simp only[List.map_cons]at this ⊢
   simp only[nY,this,ih λy hy=>h y (b0 _ hy)]
theorem Am(a:List Int)(l:List (List Int)):bL ((a::l).map λ(x:List Int)=>.tup (x.map .int))=none:=rfl
theorem Gh(l:List D):lD .len [.tup l]=some (.dat (.int l.length)):=rfl
theorem Gi(l:List D):lD .len [.lst l]=some (.dat (.int l.length)):=rfl
theorem oJ(l:List D):lD .len [.fix l]=some (.dat (.int l.length)):=rfl
theorem Ao(l:List D):lD .list [.tup l]=some (.new l):=rfl
theorem Aq(l:List D):lD .list [.lst l]=some (.new l):=rfl
theorem wN(l:List D):lD .tuple [.lst l]=some (.dat (.tup l)):=rfl
theorem wO(l:List D):lD .tuple [.tup l]=some (.dat (.tup l)):=rfl
theorem sy(i j:Int):lD .max [.int i,.int j]=some (.dat (.int (if j > i then j else i))):=rfl
theorem yK(i j:Int):lD .min [.int i,.int j]=some (.dat (.int (if j<i then j else i))):=rfl
theorem RX(l:List Bool):lD .all [.lst (l.map .bl)]=some (.dat (.bl (l.all id))):=by simp only[lD,QF,Lg]
theorem uO(l:List Int)(h:l.length<64):lD .sorted [.lst (l.map .int)]=some (.new ((bw l).map .int)):=by simp only[lD,QF,dF,ints_map,h,Ap]
theorem Nj(l:List Int)(h:l.length<64):lD .sorted [.tup (l.map .int)]=some (.new ((bw l).map .int)):=by simp only[lD,QF,dF,ints_map,h,Ap]
theorem iu(l:List (List Int))(hn:∀x∈l,x≠[])(h:l.length<64):lD .sorted [.lst (l.map λx=>.tup (x.map .int))]=some (.new ((bM dO l).map λx=>.tup (x.map .int))):=by
 cases l with
 |nil=>rfl
 |cons a l=>have e:=Gg (a::l) hn;simp only[lD,QF,dF,Am,e,h,Ap]
theorem fJ:∀a b:List Int,d8 (a.map .int) (b.map .int)=decide (a=b)
 | [],[]=>rfl
 | [],_::_=>rfl
 |_::_,[]=>rfl
 |x::a,y::b=>by
  simp only[List.map_cons,d8,cM,fJ a b,A7,Bool.decide_and];rfl
theorem kP(a:List Int):lN (a.map .int)=true:=by
 induction a with
 |nil=>rfl
 |cons x a ih=>simp[lN,jz,ih]
theorem kU(a:List Int):deps (a.map .int)=0:=by
 induction a with
 |nil=>rfl
 |cons x a ih=>simp[deps,dep,ih]
theorem qB(a b:List Int):gI (.tup (a.map .int)) (.tup (b.map .int))=true:=by simp[gI,jz,kP,dep,kU]
theorem oK(a b:List Int):gI (.lst (a.map .int)) (.lst (b.map .int))=true:=by simp[gI,jz,kP,dep,kU]
theorem RZ(a b:List Int):fz .Eq (.tup (a.map .int)) (.tup (b.map .int))=some (decide (a=b)):=by simp only[fz,qB,Ap,cM,fJ]
theorem Gj(a b:List Int):fz .NotEq (.tup (a.map .int)) (.tup (b.map .int))=some (!decide (a=b)):=by simp only[fz,qB,Ap,cM,fJ]
theorem Gk(a b:List Int):fz .Eq (.lst (a.map .int)) (.lst (b.map .int))=some (decide (a=b)):=by simp only[fz,oK,Ap,cM,fJ]
theorem wQ(a b:List Int):fz .NotEq (.lst (a.map .int)) (.lst (b.map .int))=some (!decide (a=b)):=by simp only[fz,oK,Ap,cM,fJ]
theorem R0(a b:Int):fz .Eq (.int a) (.int b)=some (decide (a=b)):=rfl
theorem R5(a b:Int):fz .NotEq (.int a) (.int b)=some (!decide (a=b)):=rfl
theorem R8(a b:Int):fz .Lt (.int a) (.int b)=some (decide (a<b)):=rfl
theorem R9(a b:Int):fz .LtE (.int a) (.int b)=some (decide (a<=b)):=rfl
theorem Se(a b:Int):fz .Gt (.int a) (.int b)=some (decide (a > b)):=rfl
theorem Sf(a b:Int):fz .GtE (.int a) (.int b)=some (decide (a ≥ b)):=rfl
theorem Lh(a b:Int):mj .Add (.int a) (.int b)=some (.dat (.int (a+b))):=rfl
theorem Li(a b:Int):mj .Sub (.int a) (.int b)=some (.dat (.int (a - b))):=rfl
theorem ix_t(l:List D)(i:Int):HD (.tup l) (.int i)=L2.fQ l i:=rfl
theorem ix_l(l:List D)(i:Int):HD (.lst l) (.int i)=L2.fQ l i:=rfl
theorem ix_f(l:List D)(i:Int):HD (.fix l) (.int i)=L2.fQ l i:=rfl
theorem mC{α:Type}(l:List α)(i:Nat)(h:i<l.length):L2.fQ l (i:Int)=some l[i]:=by unfold L2.fQ L2.oZ;rw[fN ⋯,fN ⋯];simp[h]
theorem uP(l:List Int)(i:Nat)(h:i<l.length):L2.fQ (l.map D.int) (i:Int)=some (.int l[i]):=by
 rw[mC _ _ (by simpa using h)]
 simp
theorem is_tup(l:List D):eL (nF (.tup l)) "tuple"=true:=rfl
theorem Sh(i:Int):eL (nF (.int i)) "int"=true:=rfl
theorem Gm(i:Int):eL (nF (.int i)) "bool"=false:=rfl
theorem Gn(m:Nat):cu 0 m=((List.range m).map λ(k:Nat)=>(k:Int)).map .int:=by simp[cu]
theorem ao(m:Nat)(h:m<=1000):m<=lim:=l6 h ⋯
theorem aP(i:Int)(h:0<=i/\i<=1000):Kf i=true:=by unfold Kf;simp only[eP,hU];lia
section
theorem bG{fx:Fx}{d:D}(h:fx.np=1):aI rn fx k [.dat d] g1=(cY rn k fx [d]).map λr=>(r,g1):=kO (ds:=[d]) h.symm
theorem cZ{fx:Fx}{d e:D}(h:fx.np=2):aI rn fx k [.dat d,.dat e] g1=(cY rn k fx [d,e]).map λr=>(r,g1):=kO (ds:=[d,e]) h.symm
theorem sA{fx:Fx}{d e f:D}(h:fx.np=3):aI rn fx k [.dat d,.dat e,.dat f] g1=(cY rn k fx [d,e,f]).map λr=>(r,g1):=kO (ds:=[d,e,f]) h.symm
end
structure iY(fns:List Fx)(rn:Nat->Rn):Prop where
 e:∀(n:Nat) (bor:List Nat) (k:Nat) (x:Ex) (g:G),(rn (n+1)).e bor k x g=aW (rn n) bor k fns x g
 t:∀(n:Nat) (bor:List Nat) (k:Nat) (x:Ex) (g:G),(rn (n+1)).t bor k x g=stepT (rn n) bor k x g
 b:∀(n:Nat) (bor:List Nat) (k:Nat) (x:List Sm) (g:G),(rn (n+1)).b bor k x g=bN (rn n) bor k x g
 x:∀(n:Nat) (bor:List Nat) (k:Nat) (x:Ex) (g:G),(rn (n+1)).x bor k x g=uD (rn n) bor k fns x g
 xt:∀(n:Nat) (bor:List Nat) (k:Nat) (x:Ex) (g:G),(rn (n+1)).xt bor k x g=rS (rn n) bor k x g
 xb:∀(n:Nat) (bor:List Nat) (k:Nat) (x:List Sm) (g:G),(rn (n+1)).xb bor k x g=jk (rn n) bor k x g
theorem Lj(fns:List Fx):iY fns (run fns):=⟨λ_ _ _ _ _=>rfl,λ_ _ _ _ _=>rfl,λ_ _ _ _ _=>rfl,λ_ _ _ _ _=>rfl,λ_ _ _ _ _=>rfl,λ_ _ _ _ _=>rfl⟩
def Si(rn:Rn)(k:Nat)(fx:Fx)(ds:List D):Option Nat:=match rn.xb [] k fx.body (dh fx.n (Um ds))with
 |some (ci,_)=>some ci
 |none=>none
theorem Ar{rn:Rn}{k:Nat}{g1:G}{fx:Fx}{ds:List D}(hl:ds.length=fx.np):uC rn fx k (ds.map .dat) g1=(Si rn k fx ds).map λr=>(r,g1):=by
 unfold uC Si;rw[uM,uN,yH];simp only[eR,hl,List.map_nil,oI,and_self,Ap];cases rn.xb [] k fx.body (dh fx.n (ds.map .dat))with
 |none=>rfl
 |some p=>rfl
section
theorem yL{fx:Fx}{d:D}(h:fx.np=1):uC rn fx k [.dat d] g1=(Si rn k fx [d]).map λr=>(r,g1):=Ar (ds:=[d]) h.symm
end
abbrev evZ:=And.intro @is_tup (And.intro @Sh (And.intro @Gm (And.intro @Gh (And.intro @Gi (And.intro @Ao (And.intro @Aq (And.intro @wN (And.intro @wO (And.intro @sy (And.intro @yK (And.intro @RX (And.intro @RZ (And.intro @Gj (And.intro @Gk (And.intro @wQ (And.intro @R0 (And.intro @R5 (And.intro @R8 (And.intro @R9 (And.intro @Se (And.intro @Sf (And.intro @Lh (And.intro @Li (And.intro @ix_t (And.intro @ix_l @ix_f)))))))))))))))))))))))))
abbrev unfZ{fns rn}(U:iY fns rn):=And.intro U.e (And.intro U.t (And.intro U.b (And.intro U.x (And.intro U.xt U.xb))))
end Ev
local macro_rules | `(tactic|simp! [$u:term,$ls,*])=>`(tactic|simp[-List.map_map,-List.map_cons,-List.map_nil,Ev.unfZ $u,Ev.evZ,Ev.uD,Ev.rS,Ev.n9,Ev.jk,Ev.xArgs,Ev.bN,Ev.aE,Ev.aW,Ev.stepT,Ev.argsR,Ev.lE,Ev.gP,Ev.toD,Ev.norm,Ev.pk,Ev.tK,Ev.dh,Ev.cV,Ev.Um,Ev.Ew,Ev.Wv,Ev.uB,Ev.Ey,Ev.Bo,Ev.Jx,$ls,*])
local macro_rules | `(~~~$x)=>`(Ev.D.tup (List.map Ev.D.int $x))
namespace Ev
noncomputable def aK:Fx:=⟨2,4,[(.ite (.ix (.slot 0) (.val (.int 1))) [(.set 2 (.bin .Mod (.ix (.slot 0) (.val (.int 0))) (.slot 1))),(.item 0 (.val (.int 0)) (.bin .FloorDiv (.ix (.slot 0) (.val (.int 0))) (.slot 1))),(.ret (.slot 2))] []),(.item 0 (.val (.int 0)) (.bin .Mod (.bin .Add (.bin .Mult (.ix (.slot 0) (.val (.int 0))) (.val (.int 48271))) (.val (.int 29))) (.val (.int 2147483647)))),(.set 3 (.bin .Mod (.bin .Add (.bin .Add (.bin .Mult (.ix (.slot 0) (.val (.int 0))) (.ix (.slot 0) (.val (.int 0)))) (.bin .Mult (.val (.int 39373)) (.ix (.slot 0) (.val (.int 0))))) (.val (.int 7))) (.val (.int 2147483629)))),(.set 3 (.bin .Mod (.bin .Add (.bin .Mult (.slot 3) (.slot 3)) (.bin .Mult (.val (.int 16807)) (.slot 3))) (.val (.int 2147483587)))),(.ret (.bin .Mod (.bin .FloorDiv (.slot 3) (.val (.int 8))) (.slot 1)))]⟩
noncomputable def Gp(ti:Nat):Fx:=⟨2,4,[(.set 2 (.blt .list [(.slot 1)])),(.set 3 (.lst [])),(.while (.cmp .NotEq (.slot 2) (.lst [])) [(.expr (.append 3 (.gu 2 (.call ti [(.slot 0),(.blt .len [(.slot 2)])]))))]),(.ret (.slot 3))]⟩
def lH:Fx:=⟨2,2,[(.ite (.cmp .Lt (.slot 1) (.blt .len [(.slot 0)])) [(.ret (.ix (.slot 0) (.slot 1)))] []),(.ret (.val (.int 0)))]⟩
noncomputable def kW(ci:Nat):Fx:=⟨2,3,[(.set 2 (.call ci [(.slot 0),(.slot 1)])),(.ite (.cmp .GtE (.slot 2) (.bin .Pow (.val (.int 10)) (.val (.int 18)))) [(.ret (.lst [(.bin .Sub (.slot 2) (.bin .Pow (.val (.int 10)) (.val (.int 18)))),(.val (.bl true))]))] []),(.ret (.lst [(.bin .Mod (.slot 2) (.val (.int 2147483647))),(.val (.bl false))]))]⟩
def Tn(m:Nat)(t:List Int):Prop:=bw t=(List.range m).map λ(k:Nat)=>(k:Int)
theorem Tn.length{m:Nat}{t:List Int}(h:Tn m t):t.length=m:=by have:=(bJ t).length_eq;rw[h]at this;simpa using this.symm
theorem Tn.mem{m:Nat}{t:List Int}(h:Tn m t){x:Int}:x∈t ↔ 0<=x/\x<m:=by
 rw[<- (bJ t).mem_iff,h,i3];constructor
 . rintro⟨k,hk,rfl⟩;have:=tP.mp hk;lia
 . rintro⟨h1,h2⟩;exact⟨x.toNat,tP.mpr ⋯,by lia⟩
theorem Tn.of{m:Nat}{t:List Int}(h:t.Perm ((List.range m).map λ(k:Nat)=>(k:Int))):Tn m t:=by refine (fV h.symm ?_).symm;rw[List.pairwise_map];exact List.pairwise_lt_range.imp λh=>by lia
theorem Tn.perm{m:Nat}{t:List Int}(h:Tn m t):t.Perm ((List.range m).map λ(k:Nat)=>(k:Int)):=by rw[<- h];exact (bJ t).symm
noncomputable def gt(t:List Int)(i:Int):Int:=t.getD i.toNat 0
theorem iz{t:List Int}{i:Int}(h:0<=i/\i<t.length):L2.fQ (t.map D.int) i=some (.int (gt t i)):=by
 obtain⟨n,rfl⟩:∃n:Nat,i=n:=⟨i.toNat,by lia⟩
 rw[uP t n ⋯];simp[gt,(by lia:n<t.length)]
noncomputable def nums(m:Nat):List Int:=(List.range m).map λ(k:Nat)=>(k:Int)
theorem Gq(m:Nat):(nums m).length=m:=by simp[nums]
theorem Tn.Gr{m:Nat}{t:List Int}(h:Tn m t){i:Int}(hi:0<=i/\i<m):0<=gt t i/\gt t i<m:=by
 refine h.mem.mp ?_;have hl:=h.length;have:i.toNat<t.length:=by lia
 unfold gt;rw[w8,pV this];exact List.getElem_mem _
theorem Tn.nodup{m:Nat}{t:List Int}(h:Tn m t):t.Nodup:=by refine (h.perm.nodup_iff).mpr ?_;rw[AK,List.pairwise_map];exact List.nodup_range.imp λh=>by lia
theorem Tn.inj{m:Nat}{t:List Int}(h:Tn m t){i j:Int}(hi:0<=i/\i<m)(hj:0<=j/\j<m)(e:gt t i=gt t j):i=j:=by
 have hl:=h.length;have h1:i.toNat<t.length:=by lia
 have h2:j.toNat<t.length:=by lia
 unfold gt at e;rw[w8,pV h1,w8,pV h2]at e;have:=(List.getElem_inj h.nodup).mp (show t[i.toNat]=t[j.toNat]from e)
 lia
theorem kX{α β:Type}{f:α->β}{l:List α}(h:l.Nodup)(hf:∀x∈l,∀y∈l,f x=f y->x=y):(l.map f).Nodup:=by
 induction l with
 |nil=>exact oI
 |cons a l ih=>
  obtain⟨h1,h2⟩:=fA.mp h;rw[List.map_cons];refine fA.mpr ⟨λhm=>?_,ih h2 λx hx y hy=>hf x (b0 _ hx) y (b0 _ hy)⟩
  obtain⟨b,hb,e⟩:=i3.mp hm;have:=hf b (b0 _ hb) a dA e;exact h1 (this▸hb)
theorem aC{rn:Rn}{bor:List Nat}{k:Nat}{st:Sm}{rest:List Sm}{g g1:G}(h:aE rn bor k st g=some (.nx,g1)):bN rn bor k (st::rest) g=bN rn bor k rest g1:=by
 conv=>lhs;unfold bN
 rw[h]
abbrev St(s:Int)(fl:Bool):Slot:=.own [.int s,.bl fl]
theorem sC(a b:Int)(h:0<b):mj .Mod (.int a) (.int b)=some (.dat (.int (a % b))):=by simp[mj,kK,h]
theorem yM(a b:Int)(h:0<b/\b<1073741824):mj .FloorDiv (.int a) (.int b)=some (.dat (.int (a / b))):=by simp[mj,kK,h]
theorem jV(a b:Int)(h:(-(2 ^ 64)<a/\a<2 ^ 64)\/(-(2 ^ 64)<b/\b<2 ^ 64)):mj .Mult (.int a) (.int b)=some (.dat (.int (a * b))):=by
 have:Et a b=true:=by unfold Et;simp only[wS,eP,hU];exact h
 simp[mj,Eu,this]
section
variable{ti mi:Nat}(U:iY fns rn)(hT:fns[ti]?=some aK)
include U
theorem Sj(s:Int)(fl:Bool)(m:Int)(hm:0<m/\m<1000):∃r s' s2 s3,0<=r/\r<m/\(rn (n+20)).b [0] k aK.body [St s fl,.dat (.int m),.no,.no]=some (.rt (.dat (.int r)),[St s' fl,.dat (.int m),s2,s3]):=by
 have i0:L2.fQ [D.int s,D.bl fl] 0=some (.int s):=rfl;have i1:L2.fQ [D.int s,D.bl fl] 1=some (.bl fl):=rfl;have x0':L2.oZ 2 0=some 0:=rfl;cases fl with
 |true=>refine⟨s % m,s / m,.dat (.int (s % m)),.no,Cf _ ⋯,A8 _ hm.1,?_⟩;unfold aK;simp! [U,i0,i1,x0',sC _ _ hm.1,yM _ _ (show 0<m/\m<1073741824 by lia)]
 |false=>
  generalize hs1:(s * 48271+29) % 2147483647=s1;have h1:0<=s1/\s1<2147483647:=by rw[<- hs1];exact⟨Cf _ ⋯,A8 _ ⋯⟩
  have j0:L2.fQ [D.int s1,D.bl false] 0=some (.int s1):=rfl;generalize hs2:(s1 * s1+39373 * s1+7) % 2147483629=s2;have h2:0<=s2/\s2<2147483629:=by rw[<- hs2];exact⟨Cf _ ⋯,A8 _ ⋯⟩
  generalize hs3:(s2 * s2+16807 * s2) % 2147483587=s3;refine⟨s3 / 8 % m,s1,.no,.dat (.int s3),Cf _ ⋯,A8 _ hm.1,?_⟩;unfold aK;simp! [U,i0,i1,x0',sC,jV s 48271 (.inr ⋯),hs1,j0,jV s1 s1 (.inl ⋯),jV 39373 s1 (.inl ⋯),hs2,jV s2 s2 (.inl ⋯),jV 16807 s2 (.inl ⋯),hs3,yM _ _ (show (0:Int)<8/\(8:Int)<1073741824 by decide),hm.1]
theorem aR{i:Nat}{s:Int}{fl:Bool}{m:Int}(hi:g[i]?=some (St s fl))(hm:0<m/\m<1000):∃r s',0<=r/\r<m/\aI (rn (n+20)) aK k [.var i,.dat (.int m)] g=some (.dat (.int r),g.set i (St s' fl)):=by
 obtain⟨r,s',s2,s3,h1,h2,h⟩:=Sj U (n:=n) (k:=k) s fl m hm;refine⟨r,s',h1,h2,?_⟩;have hp:dh aK.n [St s fl,.dat (.int m)]=[St s fl,.dat (.int m),.no,.no]:=rfl;unfold aI;simp only[vars,bY,hi,List.map_cons,List.map_nil];rw[fN ⟨rfl,by simp⟩,hp,h]
 rfl
omit U in
theorem Gs(a:List Int):fz .NotEq (.lst (a.map .int)) (.lst [])=some (!decide (a=[])):=wQ a []
omit U in
theorem ju{l i:Nat}(h:i<l):L2.oZ l (i:Int)=some i:=by unfold L2.oZ;rw[fN ⋯,fN ⋯];simp
omit U in
theorem qE:∀(l:List Int) (j:Nat),(l.map D.int).eraseIdx j=(l.eraseIdx j).map .int
 | [],_=>rfl
 |_::_,0=>rfl
 |a::l,j+1=>by simp[qE l j]
omit U in
theorem uQ:∀(l:List Int) (j:Nat) (h:j<l.length),([l[j]]++l.eraseIdx j).Perm l
 |a::l,0,_=>x5 _
 |a::l,j+1,h=>(List.Perm.swap a _ _).trans ((uQ l j (by simpa using h)).cons a)
end
section
variable{ci:Nat}(U:iY fns rn)(hC:fns[ci]?=some lH)
include U hC
omit U hC in
theorem qT:mj .Pow (.int 10) (.int 18)=some (.dat (.int (10 ^ 18))):=by rfl
theorem Gu(ns:List Int)(hl:ns.length<=1000)(j:Nat):∃(s:Int) (fl:Bool),cY (rn (n+40)) (k+1) (kW ci) [.fix (ns.map .int),.int j]=some (.new [.int s,.bl fl]):=by
 obtain⟨v,q⟩:∃v:Int,∀n,cY (rn (n+20)) k lH [.fix (ns.map .int),.int j]=some (.dat (.int v)):=by
  by_cases h:j<ns.length
  .
   refine⟨ns[j],λn=>?_⟩
   have h':(j:Int)<ns.length:=by lia
   have:=uP ns j h;unfold cY lH;simp! [U,oJ,h',this]
  .
   refine⟨0,λn=>?_⟩
   have h' : ¬ (j:Int)<ns.length:=by lia
   unfold cY lH;simp! [U,oJ,h']
 by_cases hv:(1000000000000000000:Int)<=v
 . refine⟨v - 1000000000000000000,true,?_⟩;unfold cY kW;simp! [U,hC,cZ (fx:=lH) rfl,q,qT,hv,ao 2 ⋯]
 . refine⟨v % 2147483647,false,?_⟩;unfold cY kW;simp! [U,hC,cZ (fx:=lH) rfl,q,qT,hv,ao 2 ⋯,sC]
end
noncomputable def bx:Fx:=⟨1,1,[(.ret (.and [(.mh (.slot 0) "int"),(.not (.mh (.slot 0) "bool"))]))]⟩
noncomputable def bO(w:Nat):Fx:=⟨3,3,[(.ret (.and [(.call w [(.slot 0)]),(.chain (.slot 1) [.LtE,.LtE] [(.slot 0),(.slot 2)])]))]⟩
def isInt:D->Bool
 |.int _=>true
 |_=>false
noncomputable def sS(lo hi:Int):D->Bool
 |.int i=>decide (lo<=i/\i<=hi)
 |_=>false
theorem qF:∀{l:List D},l.all isInt=true->∃t:List Int,l=t.map .int
 | [],_=>⟨[],rfl⟩
 |d::l,h=>by
  rw[List.all_cons,eP]at h;obtain⟨t,rfl⟩:=qF h.2;cases d with
  |int i=>exact⟨i::t,rfl⟩
  |_=>cases h.1
section
variable{w wi mw it ci cj:Nat}(U:iY fns rn)
include U
theorem dP(d:D):cY (rn (n+6)) k bx [d]=some (.dat (.bl (isInt d))):=by unfold cY bx;cases d <;> simp! [U,eL,nF,isInt]
variable(hW:fns[w]?=some bx)
include hW
theorem kY(d:D)(lo hi:Int):cY (rn (n+14)) (k+1) (bO w) [d,.int lo,.int hi]=some (.dat (.bl (sS lo hi d))):=by
 unfold cY bO;cases d with
 |int i=>
  by_cases h1:lo<=i
  .
   by_cases h2:i<=hi
   . simp! [U,hW,bG (fx:=bx) rfl,dP U,isInt,sS,h1,h2]
   . simp! [U,hW,bG (fx:=bx) rfl,dP U,isInt,sS,h1,h2]
  . simp! [U,hW,bG (fx:=bx) rfl,dP U,isInt,sS,h1]
 |_=>simp! [U,hW,bG (fx:=bx) rfl,dP U,isInt,sS]
end
def jv(wi:Nat):Fx:=⟨2,2,[(.ite (.or [(.not (.mh (.slot 1) "tuple")),(.cmp .NotEq (.blt .len [(.slot 1)]) (.val (.int 2)))]) [(.ret (.val (.bl false)))] []),(.ret (.and [(.blt .all [(.comp 2 2 (.nm 3) (.slot 1) none (.call wi [(.slot 3),(.val (.int 0)),(.bin .Sub (.slot 0) (.val (.int 1)))]))]),(.cmp .Lt (.ix (.slot 1) (.val (.int 0))) (.ix (.slot 1) (.val (.int 1))))]))]⟩
def wR:Fx:=⟨1,1,[(.ret (.blt .all [(.comp 1 2 (.nm 2) (.fF (.val (.int 1)) (.blt .len [(.slot 0)])) none (.cmp .Lt (.ix (.slot 0) (.bin .Sub (.slot 2) (.val (.int 1)))) (.ix (.slot 0) (.slot 2))))]))]⟩
def jw(wi it ri:Nat):Fx:=⟨1,3,[(.ite (.or [(.not (.mh (.slot 0) "tuple")),(.cmp .NotEq (.blt .len [(.slot 0)]) (.val (.int 2)))]) [(.ret (.val (.bl false)))] []),(.tgt (.tp [1,2]) (.slot 0)),(.ite (.or [(.not (.call wi [(.slot 1),(.val (.int 1)),(.val (.int 6))])),(.not (.mh (.slot 2) "tuple"))]) [(.ret (.val (.bl false)))] []),(.ret (.and [(.blt .all [(.comp 3 2 (.nm 4) (.slot 2) none (.call it [(.slot 1),(.slot 4)]))]),(.call ri [(.slot 2)])]))]⟩
noncomputable def dc(iw ci:Nat):Fx:=⟨1,1,[(.ite (.not (.call iw [(.slot 0)])) [(.raise ci (.val (.str (PySem.Str.ofString "no web"))))] [])]⟩
noncomputable def W(m:Nat)(ak:List (List Int)):D:=.tup [.int m,.tup (ak.map λx=>~~~x)]
structure Wb(m:Nat)(ak:List (List Int)):Prop where
 tie:∀x∈ak,∃a b:Int,x=[a,b]/\0<=a/\a<b/\b<m
 ris:ak.Pairwise λx y=>HT.lexLt x y=true
 len:ak.length<=15
section
variable{wh wi it ri iw ci:Nat}(U:iY fns rn)
include U
variable(hW:fns[wh]?=some bx)(hI:fns[wi]?=some (bO wh))
include hW hI
theorem Gv(m:Nat)(a b:Int)(h:0<=a/\a<b/\b<m):cY (rn (n+40)) (k+3) (jv wi) [.int m,~~~[a,b]]=some (.dat (.bl true)):=by
 have w:=λn k=>lG (rn:=rn (n+24)) (bor:=[]) (k:=k+2) (g:=[.dat (.int m),.dat (~~~[a,b])]) (g1:=[.dat (.int m),.dat (~~~[a,b])]) (kk:=2) (nn:=2) (j:=3) (it:=.slot 1) (e:=.call wi [(.slot 3),(.val (.int 0)),(.bin .Sub (.slot 0) (.val (.int 1)))]) [a,b] .int (λ_=>.bl true) (by simp! [U,fX]) rfl ⋯ ⋯ ⋯ (ao _ ⋯) λx hx G' hG=>by
  have h0:G'[0]?=some (.dat (.int m)):=hG.1 0 ⋯;have hx':(0:Int)<=x/\x<=m - 1:=by simp only[d0,mE,AI]at hx;lia
  simp! [U,hG.2,h0,hI,sA (fx:=bO wh) rfl,kY U hW,sS,hx']
 have e1:[a,b].map (λ_=>D.bl true)=([true,true]).map .bl:=rfl
 have i0:L2.fQ ([a,b].map D.int) 0=some (.int a):=rfl;have i1:L2.fQ ([a,b].map D.int) 1=some (.int b):=rfl;unfold cY jv;simp! [U,w,e1,i0,i1,h]
omit hW hI in
theorem Sl(m:Nat)(ak:List (List Int))(h:Wb m ak):cY (rn (n+40)) k wR [.tup (ak.map λx=>~~~x)]=some (.dat (.bl true)):=by
 have hl:=h.len;have w:=λn k=>lG (rn:=rn (n+16)) (bor:=[]) (k:=k) (g:=[.dat (.tup (ak.map λx=>~~~x))]) (g1:=[.dat (.tup (ak.map λx=>~~~x))]) (kk:=2) (nn:=1) (j:=2) (it:=.fF (.val (.int 1)) (.blt .len [(.slot 0)])) (e:=.cmp .Lt (.ix (.slot 0) (.bin .Sub (.slot 2) (.val (.int 1)))) (.ix (.slot 0) (.slot 2))) (List.range (ak.length - 1)) (λ(k:Nat)=>.int (1+k:Int)) (λ_=>.bl true) (by
   have e:((ak.length:Int) - 1).toNat=ak.length - 1:=by lia
   simp! [U,fX,aP 1 ⋯,aP (ak.length:Int) ⋯,e,cu]) rfl ⋯ ⋯ ⋯ (ao _ (by simp;lia)) λj hj G' hG=>by
  have h0:G'[0]?=some (.dat (.tup (ak.map λx=>~~~x))):=hG.1 0 ⋯
  have hj':=tP.mp hj;have j1:L2.fQ (ak.map λx=>~~~x) (1+(j:Int) - 1)=some (~~~(ak[j]'⋯)):=by rw[show (1+(j:Int) - 1)=((j:Nat):Int)by lia,mC _ _ (by simp;lia)];simp
  have j2:L2.fQ (ak.map λx=>~~~x) (1+(j:Int))=some (~~~(ak[j+1]'⋯)):=by rw[show (1+(j:Int))=((j+1:Nat):Int)by lia,mC _ _ (by simp;lia)];simp
  have yU:HT.lexLt (ak[j]'⋯) (ak[j+1]'⋯)=true:=List.pairwise_iff_getElem.mp h.ris j (j+1) ⋯ ⋯ ⋯;have hc:fz .Lt (~~~(ak[j]'⋯)) (~~~(ak[j+1]'⋯))=some true:=by simp only[fz,ltF,ints_map,yU]
  simp! [U,hG.2,h0,j1,j2,hc]
 have e1:(List.range (ak.length - 1)).map (λ_=>D.bl true)=((List.range (ak.length - 1)).map λ_=>true).map .bl:=by rw[List.map_map];rfl
 have e2:((List.range (ak.length - 1)).map λ_=>true).all id=true:=by simp
 unfold cY wR;simp! [U,w,e1,e2]
variable(Uj:fns[it]?=some (jv wi))(hR:fns[ri]?=some wR)
include Uj hR
theorem Gw(m:Nat)(ak:List (List Int))(hm:1<=m/\m<=6)(h:Wb m ak):cY (rn (n+60)) (k+5) (jw wi it ri) [W m ak]=some (.dat (.bl true)):=by
 have hl:=h.len;have w:=λn k=>lG (rn:=rn (n+50)) (bor:=[]) (k:=k+4) (g:=[.dat (W m ak),.dat (.int m),.dat (.tup (ak.map λx=>~~~x))]) (g1:=[.dat (W m ak),.dat (.int m),.dat (.tup (ak.map λx=>~~~x))]) (kk:=2) (nn:=3) (j:=4) (it:=.slot 2) (e:=.call it [(.slot 1),(.slot 4)]) ak (λx=>~~~x) (λ_=>.bl true) (by simp! [U,fX]) rfl ⋯ ⋯ ⋯ (ao _ ⋯) λx hx G' hG=>by
  have h1:G'[1]?=some (.dat (.int m)):=hG.1 1 ⋯;obtain⟨a,b,rfl,hab⟩:=h.tie x hx;simp! [U,hG.2,h1,Uj,cZ (fx:=jv wi) rfl,Gv U hW hI m a b hab]
 have e1:ak.map (λ_=>D.bl true)=(ak.map λ_=>true).map .bl:=by rw[List.map_map];rfl
 have e2:(ak.map λ_=>true).all id=true:=by simp
 have q:=λn k=>Sl U (n:=n) (k:=k) m ak h
 have ty:eL (nF (W m ak)) "tuple"=true:=rfl;have bl:lD .len [W m ak]=some (.dat (.int 2)):=rfl;have st:∀s1 s2,Tg.set (.tp [1,2]) (W m ak) [.dat (W m ak),s1,s2]=some [.dat (W m ak),.dat (.int m),.dat (.tup (ak.map λx=>~~~x))]:=λ_ _=>rfl
 unfold cY jw;simp! [U,ty,bl,Tg.ix,st,hI,sA (fx:=bO wh) rfl,kY U hW,sS,(show (1:Int)<=m/\(m:Int)<=6 by lia),w,e1,e2,hR,bG (fx:=wR) rfl,q]
variable(Xj:fns[iw]?=some (jw wi it ri))
include Xj
theorem wU(m:Nat)(ak:List (List Int))(hm:1<=m/\m<=6)(h:Wb m ak):cY (rn (n+70)) (k+6) (dc iw ci) [W m ak]=some (.dat .non):=by unfold cY dc;simp! [U,Xj,bG (fx:=jw wi it ri) rfl,Gw U hW hI Uj hR m ak hm h]
end
def tm(t:List Int)(x:List Int):List Int:=if gt t (gt x 0)<gt t (gt x 1)then [gt t (gt x 0),gt t (gt x 1)]else [gt t (gt x 1),gt t (gt x 0)]
theorem eY(a b:Int):gt [a,b] 0=a/\gt [a,b] 1=b:=⟨rfl,rfl⟩
theorem mF(t:List Int)(a b:Int):tm t [a,b]=if gt t a<gt t b then [gt t a,gt t b]else [gt t b,gt t a]:=rfl
def Pr(m:Nat)(x:List Int):Prop:=∃a b:Int,x=[a,b]/\0<=a/\a<b/\b<m
theorem Gx{m:Nat}{t:List Int}(h:Tn m t){x:List Int}(hx:Pr m x):Pr m (tm t x):=by
 obtain⟨a,b,rfl,h1,h2,h3⟩:=hx;have ha:=h.Gr (i:=a) ⋯;have hb:=h.Gr (i:=b) ⋯;have iC:gt t a≠gt t b:=λe=>by have:=h.inj (i:=a) (j:=b) ⋯ ⋯ e;lia
 rw[mF];split
 . exact⟨_,_,rfl,by lia,by lia,by lia⟩
 . exact⟨_,_,rfl,by lia,by lia,by lia⟩
theorem Gy{m:Nat}{t:List Int}(h:Tn m t){x y:List Int}(hx:Pr m x)(hy:Pr m y)(e:tm t x=tm t y):x=y:=by
 obtain⟨a,b,rfl,h1,h2,h3⟩:=hx;obtain⟨c,d,rfl,h4,h5,h6⟩:=hy;rw[mF,mF]at e;have i1:∀i j:Int,(0<=i/\i<m)->(0<=j/\j<m)->gt t i=gt t j->i=j:=λi j hi hj e=>h.inj hi hj e
 split at e <;> split at e <;> simp only[A7,and_true]at e
 .
  have:=i1 a c ⋯ ⋯ e.1;have:=i1 b d ⋯ ⋯ e.2
  subst_vars;rfl
 . have:=i1 a d ⋯ ⋯ e.1;have:=i1 b c ⋯ ⋯ e.2;lia
 . have:=i1 b c ⋯ ⋯ e.1;have:=i1 a d ⋯ ⋯ e.2;lia
 .
  have:=i1 b d ⋯ ⋯ e.1;have:=i1 a c ⋯ ⋯ e.2
  subst_vars;rfl
theorem fj{l:List (List Int)}(h:l.Nodup):(bM dO l).Pairwise λx y=>HT.lexLt x y=true:=by
 have h1:=fW (O:=dO) l;have h2:(bM dO l).Nodup:=(bT l).nodup_iff.mpr h;rw[AK]at h2;refine (h1.and h2).imp λ{x y} ⟨q1,q2⟩=>?_
 cases e:HT.lexLt x y with
 |true=>rfl
 |false=>exact absurd (ku x y e q1) q2
theorem Wb.nodup{m:Nat}{ak:List (List Int)}(h:Wb m ak):ak.Nodup:=by rw[AK];exact h.ris.imp λ{x y} q e=>by rw[e,kr]at q;cases q
noncomputable def sD:Fx:=⟨1,3,[(.set 1 (.lst [])),(.loop (.nm 2) (.cC (.slot 0)) [(.expr (.extend 1 (.comp 3 2 (.nm 4) (.fF (.bin .Add (.slot 2) (.val (.int 1))) (.slot 0)) none (.tup [(.slot 2),(.slot 4)]))))]),(.ret (.slot 1))]⟩
noncomputable def Lk(m a:Nat):List (List Int):=(List.range (m - (a+1))).map λ(j:Nat)=>[(a:Int),(a:Int)+1+(j:Int)]
def pacc(m j:Nat):List (List Int):=((List.range j).map (Lk m)).flatten
theorem qG(m j:Nat):pacc m (j+1)=pacc m j++Lk m j:=by simp[pacc,List.range_succ]
theorem uR(m:Nat):∀j,(pacc m j).length<=j * m
 | 0=>by simp[pacc]
 |j+1=>by
  rw[qG,gL,Nat.succ_mul];have:=uR m j;have h2:(Lk m j).length<=m:=by simp[Lk]
  lia
def prs(m:Nat):List (List Int):=pacc m m
def okP(m:Nat):Bool:=(prs m).all (λx=>match x with | [a,b]=>decide (0<=a)&&decide (a<b)&&decide (b<m) |_=>false)&&decide ((prs m).Nodup)&&decide ((prs m).length<=15)
theorem Ln{m:Nat}(hm:1<=m/\m<=6):okP m=true:=by
 obtain⟨h1,h2⟩:=hm
 match m,h1,h2 with
 | 1,_,_=>decide +kernel
 | 2,_,_=>decide +kernel
 | 3,_,_=>decide +kernel
 | 4,_,_=>decide +kernel
 | 5,_,_=>decide +kernel
 | 6,_,_=>decide +kernel
theorem Sq{m:Nat}(hm:1<=m/\m<=6):(∀x∈prs m,Pr m x)/\(prs m).Nodup/\(prs m).length<=15:=by
 have:=Ln hm;unfold okP at this;simp only[eP,hU,mP]at this;obtain⟨⟨h1,h2⟩,h3⟩:=this;refine⟨λx hx=>?_,h2,h3⟩
 have:=h1 x hx;split at this
 . rename_i a b;simp only[eP,hU]at this;exact⟨a,b,rfl,this.1.1,this.1.2,this.2⟩
 . cases this
section
variable{ti pi mi:Nat}(U:iY fns rn)(hT:fns[ti]?=some aK)(hP:fns[pi]?=some sD)(hM:fns[mi]?=some (Gp ti))
include U
noncomputable def fr(s:Int)(fl:Bool)(a2 a3 a4 a5 a6 a7:Slot):G:=[St s fl,.dat (.int 6),a2,a3,a4,a5,a6,a7]
end
theorem Lp(a b:Int):lD .sorted [.lst [.int a,.int b]]=some (.new ((bw [a,b]).map .int)):=uO [a,b] ⋯
noncomputable def dg(i:Nat):Fx:=⟨2,2,[(.ite (.pG (.slot 1) ["tuple", "list"]) [(.ite (.or [(.cmp .NotEq (.mh (.slot 0) "tuple") (.mh (.slot 1) "tuple")),(.cmp .NotEq (.mh (.slot 0) "list") (.mh (.slot 1) "list"))]) [(.ret (.val (.bl false)))] []),(.ite (.cmp .NotEq (.blt .len [(.slot 0)]) (.blt .len [(.slot 1)])) [(.ret (.val (.bl false)))] []),(.ret (.blt .all [(.comp 2 3 (.tp [3,4]) (.zip (.slot 0) (.slot 1)) none (.call i [(.slot 3),(.slot 4)]))]))] []),(.ret (.and [(.cmp .Eq (.slot 0) (.slot 1)),(.cmp .Eq (.mh (.slot 0) "bool") (.mh (.slot 1) "bool"))]))]⟩
theorem mG{l:List D}{r:Int}(h:0<=r/\r<l.length):∃x∈l,L2.fQ l r=some x:=by
 obtain⟨j,rfl⟩:∃j:Nat,r=j:=⟨r.toNat,by lia⟩
 have hj:j<l.length:=by lia
 exact⟨l[j],List.getElem_mem hj,mC l j hj⟩
theorem jW(l m:List D)(h:l.length+m.length<=1000):mj .Add (.tup l) (.tup m)=some (.dat (.tup (l++m))):=by
 show (if l.length+m.length<=lim then _ else _)=_
 rw[fN (ao _ h)]
theorem mH(l m:List D)(h:l.length+m.length<=1000):mj .Add (.lst l) (.lst m)=some (.new (l++m)):=by
 show (if l.length+m.length<=lim then _ else _)=_
 rw[fN (ao _ h)]
noncomputable def Sd:Nat->D->Prop
 |_,.int _=>True
 |_,.bl _=>True
 |_,.str _=>True
 |_,.non=>True
 |c+1,.tup l=>l.length<=1000/\∀x∈l,Sd c x
 |c+1,.lst l=>l.length<=1000/\∀x∈l,Sd c x
 |_,_=>False
theorem uS:∀l:List D,rQ l l=l.map λa=>D.tup [a,a]
 | []=>rfl
 |a::l=>by
  show D.tup [a,a]::rQ l l=_;rw[uS l];rfl
theorem all_true{α:Type}(l:List α):(l.map λ_=>true).all id=true:=by simp
section
variable(U:iY fns rn)
include U
theorem uT{c:Nat}(hS:fns[i]?=some (dg i))(ih:∀n k d,Sd c d->cY (rn (n+20 * c+20)) (k+c) (dg i) [d,d]=some (.dat (.bl true))){d:D}{l:List D}(hw:∀n k,fX (rn (n+2)) [] k true (.zip (.slot 0) (.slot 1)) [.dat d,.dat d]=some (rQ l l,[.dat d,.dat d]))(hl:l.length<=1000)(h:∀x∈l,Sd c x):∀n k,bZ (rn (n+20 * c+23)) [] (k+c+1) 2 3 (.tp [3,4]) (.zip (.slot 0) (.slot 1)) none (.call i [(.slot 3),(.slot 4)]) [.dat d,.dat d]=some ((l.map λ_=>true).map .bl,[.dat d,.dat d]):=λn k=>by
 rw[List.map_map];exact Gf (rn:=rn (n+20 * c+23)) (bor:=[]) (k:=k+c+1) (g:=[.dat d,.dat d]) (g1:=[.dat d,.dat d]) (kk:=3) (nn:=2) (j1:=3) (j2:=4) l id id _ (by rw[hw (n+20 * c+21)];rw[uS];rfl) rfl ⋯ ⋯ ⋯ ⋯ ⋯ ⋯ ⋯ (ao _ hl) λa ha G' hG=>by
  have h1:=hG.2.1;have h2:=hG.2.2;simp only[id]at h1 h2;have q:=ih (n+2) k a (h a ha);rw[show n+2+20 * c+20=n+20 * c+22 by lia]at q
  simp! [U,h1,h2,hS,cZ (fx:=dg i) rfl,q]
theorem sE(hS:fns[i]?=some (dg i)):∀(c n k:Nat) (d:D),Sd c d->cY (rn (n+20 * c+20)) (k+c) (dg i) [d,d]=some (.dat (.bl true))
 | 0,n,k,d,h=>by
  cases d with
  |int j=>unfold cY dg;simp! [U,nF,eL,fz,gI,cM,jz,dep]
  |bl j=>unfold cY dg;simp! [U,nF,eL,fz,gI,cM,jz,dep]
  |str j=>unfold cY dg;simp! [U,nF,eL,fz,gI,cM,jz,dep]
  |non=>unfold cY dg;simp! [U,nF,eL,fz,gI,cM,jz,dep]
  |_=>exact h.elim
 |c+1,n,k,d,h=>by
  have ih:=sE hS c;rw[show n+20 * (c+1)+20=n+20 * c+40 by lia,show k+(c+1)=k+c+1 by lia]
  cases d with
  |int j=>unfold cY dg;simp! [U,nF,eL,fz,gI,cM,jz,dep]
  |bl j=>unfold cY dg;simp! [U,nF,eL,fz,gI,cM,jz,dep]
  |str j=>unfold cY dg;simp! [U,nF,eL,fz,gI,cM,jz,dep]
  |non=>unfold cY dg;simp! [U,nF,eL,fz,gI,cM,jz,dep]
  |tup l=>
   have w:=uT U hS ih (d:=.tup l) (l:=l) (λn k=>by simp! [U,fX,dF,isTup]) h.1 h.2
   have w':=w (n+13) k;rw[show n+13+20 * c+23=n+20 * c+36 by lia]at w'
   unfold cY dg;simp! [U,nF,eL,fz,gI,cM,jz,dep,w',all_true]
  |lst l=>
   have w:=uT U hS ih (d:=.lst l) (l:=l) (λn k=>by simp! [U,fX,dF,isTup]) h.1 h.2
   have w':=w (n+13) k;rw[show n+13+20 * c+23=n+20 * c+36 by lia]at w'
   unfold cY dg;simp! [U,nF,eL,fz,gI,cM,jz,dep,w',all_true]
  |_=>exact h.elim
end
def fy:Fx:=⟨2,5,[(.set 2 (.lst [])),(.loop (.tp [3,4]) (.ix (.slot 0) (.val (.int 1))) [(.expr (.append 2 (.tup [(.blt .min [(.ix (.slot 1) (.slot 3)),(.ix (.slot 1) (.slot 4))]),(.blt .max [(.ix (.slot 1) (.slot 3)),(.ix (.slot 1) (.slot 4))])])))]),(.ret (.tup [(.ix (.slot 0) (.val (.int 0))),(.blt .tuple [(.blt .sorted [(.slot 2)])])]))]⟩
def gA(ti:Nat):Fx:=⟨2,4,[(.set 2 (.gq (.slot 1))),(.set 3 (.lst [])),(.while (.cmp .NotEq (.slot 2) (.lst [])) [(.expr (.append 3 (.gu 2 (.call ti [(.slot 0),(.blt .len [(.slot 2)])]))))]),(.ret (.blt .tuple [(.slot 3)]))]⟩
def uU(ti:Nat):List Sm:=[(.expr (.append 3 (.tup [(.ix (.lst [(.call ti [(.slot 0),(.slot 4)]),(.bin .Sub (.slot 4) (.val (.int 1))),(.val (.int 0)),(.blt .max [(.val (.int 0)),(.bin .Sub (.slot 4) (.val (.int 2)))])]) (.slot 2)),(.slot 4)])))]
def gB(ti na mi:Nat):Fx:=⟨2,5,[(.set 2 (.call ti [(.slot 0),(.val (.int 4))])),(.set 3 (.lst [])),(.loop (.nm 4) (.fF (.val (.int 1)) (.slot 1)) (uU ti)),(.ret (.call na [(.tup [(.slot 1),(.blt .tuple [(.slot 3)])]),(.call mi [(.slot 0),(.slot 1)])]))]⟩
theorem Xk{m:Nat}{t:List Int}(ht:Tn m t){a b:Int}(h:0<=a/\a<b/\b<m):[if gt t b<gt t a then gt t b else gt t a,if gt t b > gt t a then gt t b else gt t a]=tm t [a,b]:=by
 have iC:gt t a≠gt t b:=λe=>by have:=ht.inj (i:=a) (j:=b) ⋯ ⋯ e;lia
 rw[mF];by_cases q:gt t a<gt t b
 . rw[fR ⋯,fN ⋯,fN q]
 . rw[fN ⋯,fR ⋯,fR q]
section
variable{bor:List Nat}{k n:Nat}{g g1:G}{rn:Nat->Rn}{fns:List Fx}{ti na mi:Nat}(U:iY fns rn)
include U
theorem uV(m:Nat)(hm:m<=6)(l:List (List Int))(hl:∀x∈l,Pr m x)(hn:l.length<=60)(t:List Int)(ht:Tn m t):cY (rn (n+20)) k fy [.tup [.int m,.tup (l.map λx=>~~~x)],~~~t]=some (.dat (W m (bM dO (l.map (tm t))))):=by
 have tl:=ht.length;obtain⟨g',⟨dn,a3,a4,h1,rfl⟩,h3⟩:=cO (T:=.tp [3,4]) (b:=(rn (n+19)).b [] k [(.expr (.append 2 (.tup [(.blt .min [(.ix (.slot 1) (.slot 3)),(.ix (.slot 1) (.slot 4))]),(.blt .max [(.ix (.slot 1) (.slot 3)),(.ix (.slot 1) (.slot 4))])])))]) (λx:List Int=>~~~x)
  (I:=λrest g=>∃(dn:List (List Int)) (a3 a4:Slot),l=dn++rest/\g=[.dat (.tup [.int m,.tup (l.map λx=>~~~x)]),.dat (~~~t),.own ((dn.map (tm t)).map λx=>~~~x),a3,a4])
  (step:=λx rest g h=>by
   obtain⟨dn,a3,a4,h1,rfl⟩:=h;obtain⟨a,b,rfl,hab⟩:=hl x (by rw[h1];simp)
   have i1:L2.fQ (t.map D.int) a=some (.int (gt t a)):=iz ⋯;have i2:L2.fQ (t.map D.int) b=some (.int (gt t b)):=iz ⋯;have hdl:dn.length<lim:=eA (u4 _) (ao (dn.length+1) (by rw[h1,gL]at hn;lia))
   refine⟨[.dat (.tup [.int m,.tup (l.map λx=>~~~x)]),.dat (~~~t),.own ((dn.map (tm t)).map λx=>~~~x),.dat (.int a),.dat (.int b)],[.dat (.tup [.int m,.tup (l.map λx=>~~~x)]),.dat (~~~t),.own (((dn++[[a,b]]).map (tm t)).map λx=>~~~x),.dat (.int a),.dat (.int b)],rfl,?_,dn++[[a,b]],_,_,by rw[h1,AH];rfl,rfl⟩
   rw[t6,t6,List.map_singleton,List.map_singleton,<- Xk ht hab];simp! [U,i1,i2,hdl,ao 2 ⋯];rfl) l [.dat (.tup [.int m,.tup (l.map λx=>~~~x)]),.dat (~~~t),.own [],.no,.no] ⟨[],.no,.no,rfl,rfl⟩
 rw[l4]at h1;subst h1;have bs:=iu (l.map (tm t)) (λx hx e=>by
  obtain⟨y,hy,rfl⟩:=i3.mp hx;obtain⟨a,b,e',_⟩:=Gx ht (hl y hy);rw[e']at e;cases e) (by rw[eR];lia)
 have i0:L2.fQ [D.int (m:Int),.tup (l.map λx=>~~~x)] 0=some (.int m):=rfl
 have i1:L2.fQ [D.int (m:Int),.tup (l.map λx=>~~~x)] 1=some (.tup (l.map λx=>~~~x)):=rfl
 unfold cY fy;simp! [U,Tg.ix,Tg.kJ,fX,i0,i1,h3,bs,ao 0 ⋯,ao 2 ⋯];rfl
variable(hT:fns[ti]?=some aK)
include hT
theorem yO{i:Nat}{s:Int}{fl:Bool}(m:Nat)(hi:g[i]?=some (St s fl))(hm:m<=10):∃(row:List Int) (s':Int),Tn m row/\aI (rn (n+50)) (gA ti) (k+1) [.var i,.dat (.int m)] g=some (.dat (~~~row),g.set i (St s' fl)):=by
 have Yh:(nums m).length=m:=Gq m;have loop:=yJ (c:=(rn (n+49)).t [0] (k+1) (.cmp .NotEq (.slot 2) (.lst []))) (b:=(rn (n+49)).b [0] (k+1) [(.expr (.append 3 (.gu 2 (.call ti [(.slot 0),(.blt .len [(.slot 2)])]))))])
  (I:=λq g=>∃(s:Int) (cF d7:List Int),cF.length=q/\(d7++cF).Perm (nums m)/\g=[St s fl,.dat (.int m),.own (cF.map .int),.own (d7.map .int)])
  (step:=λq g h=>by
   obtain⟨s,cF,d7,h1,h2,rfl⟩:=h;have aJ:=h2.length_eq;rw[gL,Yh]at aJ;obtain⟨r,s',q1,q2,q3⟩:=aR U (n:=n+25) (k:=k) (g:=[St s fl,.dat (.int m),.own (cF.map .int),.own (d7.map .int)]) (i:=0) (s:=s) (fl:=fl) (m:=(cF.length:Int)) rfl ⋯;obtain⟨j,rfl⟩:∃j:Nat,r=j:=⟨r.toNat,by lia⟩
   have hj:j<cF.length:=by lia
   have e1:(cF.map D.int)[j]?=some (.int cF[j]):=by simp[hj]
   have e2:(cF.map D.int).eraseIdx j=(cF.eraseIdx j).map .int:=qE cF j;have z1:cF.length<lim:=eA (u4 _) (ao (cF.length+1) ⋯);have z2:d7.length<lim:=eA (u4 _) (ao (d7.length+1) ⋯);have iC:cF≠[]:=λe=>by rw[e]at hj;exact absurd hj (AZ _)
   refine⟨[St s fl,.dat (.int m),.own (cF.map .int),.own (d7.map .int)],[St s' fl,.dat (.int m),.own ((cF.eraseIdx j).map .int),.own ((d7++[cF[j]]).map .int)],by simp! [U,Gs,iC],?_,s',cF.eraseIdx j,d7++[cF[j]],?_,?_,rfl⟩
   . have Hu:aI (rn (n+45)) aK k [.var 0,.dat (.int (cF.length:Int))] [St s fl,.dat (.int m),.own (cF.map .int),.own (d7.map .int)]=some (.dat (.int j),[St s' fl,.dat (.int m),.own (cF.map .int),.own (d7.map .int)]):=q3;simp! [U,hT,Hu,ju hj,e1,e2,z1,z2];simp
   . rw[List.length_eraseIdx_of_lt hj];lia
   .
    refine List.Perm.trans ?_ h2;rw[AH];refine List.Perm.append_left _ ?_;exact uQ cF j hj)
  (fin:=λg h=>by
   obtain⟨s,cF,d7,h1,h2,rfl⟩:=h;have:cF=[]:=List.eq_nil_of_length_eq_zero h1;simp! [U,Gs,this])
 obtain⟨g',⟨s',cF,d7,q1,q2,rfl⟩,q3⟩:=loop m 100000 [St s fl,.dat (.int m),.own ((nums m).map .int),.own []] ⋯ ⟨s,nums m,[],Yh,by simp,rfl⟩
 have hnil:cF=[]:=List.eq_nil_of_length_eq_zero q1;subst hnil;rw[l4]at q2;refine⟨d7,s',Tn.of q2,?_⟩;have hr:cu 0 m=(nums m).map .int:=Gn m;have hp:dh (gA ti).n [St s fl,.dat (.int m)]=[St s fl,.dat (.int m),.no,.no]:=rfl;have body:(rn (n+50)).b [0] (k+1) (gA ti).body [St s fl,.dat (.int m),.no,.no]=some (.rt (.dat (~~~d7)),[St s' fl,.dat (.int m),.own [],.own (d7.map .int)]):=by unfold gA;simp! [U,aP m ⋯,ao m ⋯,hr,ao 0 ⋯,q3]
 unfold aI;simp only[vars,bY,hi,List.map_cons,List.map_nil];rw[fN ⟨rfl,by simp⟩,hp,body]
 rfl
variable(hN:fns[na]?=some fy)(hM:fns[mi]?=some (gA ti))
include hN hM
theorem sF{i:Nat}{s:Int}{fl:Bool}(m:Nat)(hm:1<=m/\m<=6)(hi:g[i]?=some (St s fl)):∃(ak:List (List Int)) (s':Int),Wb m ak/\ak.length<=5/\aI (rn (n+70)) (gB ti na mi) (k+3) [.var i,.dat (.int m)] g=some (.dat (W m ak),g.set i (St s' fl)):=by
 obtain⟨w,s1,w1,w2,q1⟩:=aR U (n:=n+48) (k:=k+2) (g:=[St s fl,.dat (.int m),.no,.no,.no]) (i:=0) (s:=s) (fl:=fl) (m:=4) rfl ⋯;have jJ:aI (rn (n+68)) aK (k+2) [.var 0,.dat (.int 4)] [St s fl,.dat (.int m),.no,.no,.no]=some (.dat (.int w),[St s1 fl,.dat (.int m),.no,.no,.no]):=q1;have e1:aE (rn (n+69)) [0] (k+3) (.set 2 (.call ti [(.slot 0),(.val (.int 4))])) [St s fl,.dat (.int m),.no,.no,.no]=some (.nx,[St s1 fl,.dat (.int m),.dat (.int w),.no,.no]):=by simp! [U,hT,jJ]
 have e2:aE (rn (n+69)) [0] (k+3) (.set 3 (.lst [])) [St s1 fl,.dat (.int m),.dat (.int w),.no,.no]=some (.nx,[St s1 fl,.dat (.int m),.dat (.int w),.own [],.no]):=by simp! [U,ao 0 ⋯]
 obtain⟨g',⟨j,ak,s2,a4,h0,h1,h2,h3,h4,rfl⟩,hq⟩:=cO (T:=.nm 4) (b:=(rn (n+69)).b [0] (k+3) (uU ti)) (λ(j:Nat)=>D.int (1+(j:Int)))
  (I:=λl g=>∃(j:Nat) (ak:List (List Int)) (s2:Int) (a4:Slot),j<m/\l=List.range' j (m - 1 - j)/\ak.length<=j/\(∀x∈ak,∃a b:Int,x=[a,b]/\0<=a/\a<b/\b<=j)/\ak.Nodup/\g=[St s2 fl,.dat (.int m),.dat (.int w),.own (ak.map λx=>~~~x),a4])
  (step:=λa l g h=>by
   obtain⟨j,ak,s2,a4,h0,h1,h2,h3,h4,rfl⟩:=h;have YG:j<m - 1:=by
    rcases xI j (m - 1)with h |h
    . exact h
    . rw[Nat.sub_eq_zero_of_le h]at h1;cases h1
   have hc:List.range' j (m - 1 - j)=j::List.range' (j+1) (m - 1 - (j+1)):=by rw[show m - 1 - j=(m - 1 - (j+1))+1 by lia,List.range'_succ]
   rw[hc]at h1;injection h1 with e1 e2;subst e1 e2;obtain⟨z,hz⟩:∃z:Int,z=1+(a:Int):=⟨_,rfl⟩;rw[<- hz];obtain⟨r,s3,r1,r2,q⟩:=aR U (n:=n+43) (k:=k+2) (g:=[St s2 fl,.dat (.int m),.dat (.int w),.own (ak.map λx=>~~~x),.dat (.int z)]) (i:=0) (s:=s2) (fl:=fl) (m:=z) rfl ⋯
   have q':aI (rn (n+63)) aK (k+2) [.var 0,.dat (.int z)] [St s2 fl,.dat (.int m),.dat (.int w),.own (ak.map λx=>~~~x),.dat (.int z)]=some (.dat (.int r),[St s3 fl,.dat (.int m),.dat (.int w),.own (ak.map λx=>~~~x),.dat (.int z)]):=q
   obtain⟨v,hv,h5⟩:∃v:Int,(0<=v/\v<z)/\L2.fQ [D.int r,.int (z - 1),.int 0,.int (if 2<z then z - 2 else 0)] w=some (.int v):=by
    have:w=0\/w=1\/w=2\/w=3:=by lia
    rcases this with rfl |rfl |rfl |rfl
    . exact⟨r,by lia,rfl⟩
    . exact⟨z - 1,by lia,rfl⟩
    . exact⟨0,by lia,rfl⟩
    . exact⟨_,by split <;> lia,rfl⟩
   have z2:ak.length<lim:=eA (u4 _) (ao (ak.length+1) ⋯);refine⟨[St s2 fl,.dat (.int m),.dat (.int w),.own (ak.map λx=>~~~x),.dat (.int z)],[St s3 fl,.dat (.int m),.dat (.int w),.own ((ak++[[v,z]]).map λx=>~~~x),.dat (.int z)],rfl,?_,a+1,ak++[[v,z]],s3,_,by lia,rfl,by simp;lia,?_,?_,rfl⟩
   . rw[t6];unfold uU;simp! [U,hT,q',h5,z2,ao 4 ⋯,ao 2 ⋯];rfl
   .
    intro x hx;rcases o0.mp hx with hx |hx
    . obtain⟨p,q,e,h⟩:=h3 x hx;exact⟨p,q,e,by lia,by lia,by lia⟩
    . rw[gN]at hx;exact⟨v,z,hx,by lia,by lia,by lia⟩
   .
    refine vS.mpr ⟨h4,by simp,λx hx y hy e=>?_⟩
    rw[gN]at hy;subst e hy;obtain⟨p,q,e,h⟩:=h3 _ hx;simp only[A7,and_true]at e;lia) (List.range' 0 (m - 1)) [St s1 fl,.dat (.int m),.dat (.int w),.own [],.no] ⟨0,[],s1,.no,by lia,rfl,by simp,by simp,oI,rfl⟩
 have hj:j=m - 1:=by
  have:(List.range' j (m - 1 - j)).length=0:=by rw[<- h1];rfl
  rw[List.length_range']at this;lia
 have hr:cu 1 (m - 1)=(List.range' 0 (m - 1)).map λ(x:Nat)=>D.int (1+(x:Int)):=by unfold cu;rw[BU]
 have e3:aE (rn (n+69)) [0] (k+3) (.loop (.nm 4) (.fF (.val (.int 1)) (.slot 1)) (uU ti)) [St s1 fl,.dat (.int m),.dat (.int w),.own [],.no]=some (.nx,[St s2 fl,.dat (.int m),.dat (.int w),.own (ak.map λx=>~~~x),a4]):=by
  have e:((m:Int) - 1).toNat=m - 1:=by lia
  generalize hb:(rn (n+69)).b [0] (k+3) (uU ti)=bb at hq;simp! [U,Tg.ix,Tg.kJ,fX,aP 1 ⋯,aP m ⋯,e,hr,hb,hq]
 have hp:∀x∈ak,Pr m x:=λx hx=>by obtain⟨p,q,e,h⟩:=h3 x hx;exact⟨p,q,e,by lia,by lia,by lia⟩
 obtain⟨row,s3,wV,q4⟩:=yO U hT (n:=n+17) (k:=k+1) (g:=[St s2 fl,.dat (.int m),.dat (.int w),.own (ak.map λx=>~~~x),a4]) (i:=0) (s:=s2) (fl:=fl) m rfl ⋯
 have Xl:aI (rn (n+67)) (gA ti) (k+2) [.var 0,.dat (.int m)] [St s2 fl,.dat (.int m),.dat (.int w),.own (ak.map λx=>~~~x),a4]=some (.dat (~~~row),[St s3 fl,.dat (.int m),.dat (.int w),.own (ak.map λx=>~~~x),a4]):=q4
 have q5:=λn k=>uV U (n:=n) (k:=k) m ⋯ ak hp ⋯ row wV
 have e4:aE (rn (n+69)) [0] (k+3) (.ret (.call na [(.tup [(.slot 1),(.blt .tuple [(.slot 3)])]),(.call mi [(.slot 0),(.slot 1)])])) [St s2 fl,.dat (.int m),.dat (.int w),.own (ak.map λx=>~~~x),a4]=some (.rt (.dat (W m (bM dO (ak.map (tm row))))),[St s3 fl,.dat (.int m),.dat (.int w),.own (ak.map λx=>~~~x),a4]):=by simp! [U,ao 2 ⋯,hM,Xl,hN,cZ (fx:=fy) rfl,q5]
 have aJ:(bM dO (ak.map (tm row))).length=ak.length:=by rw[(bT (O:=dO) _).length_eq,eR]
 refine⟨bM dO (ak.map (tm row)),s3,⟨λx hx=>?_,fj (kX h4 λx hx y hy e=>Gy wV (hp x hx) (hp y hy) e),by lia⟩,by lia,?_⟩
 . obtain⟨y,hy,rfl⟩:=i3.mp ((bT (O:=dO) _).mem_iff.mp hx);exact Gx wV (hp y hy)
 .
  have hpd:dh (gB ti na mi).n [St s fl,.dat (.int m)]=[St s fl,.dat (.int m),.no,.no,.no]:=rfl;have body:(rn (n+70)).b [0] (k+3) (gB ti na mi).body [St s fl,.dat (.int m),.no,.no,.no]=some (.rt (.dat (W m (bM dO (ak.map (tm row))))),[St s3 fl,.dat (.int m),.dat (.int w),.own (ak.map λx=>~~~x),a4]):=by unfold gB;rw[U.b,aC e1,aC e2,aC e3];unfold bN;rw[e4]
  unfold aI;simp only[vars,bY,hi,List.map_cons,List.map_nil];rw[fN ⟨rfl,by simp⟩,hpd,body]
  rfl
end
def Gz(ti:Nat):Sm:=.set 1 (.ix (.lst [(.val (.int 6)),(.val (.int 5)),(.val (.int 4)),(.val (.int 6)),(.val (.int 3)),(.val (.int 5)),(.val (.int 2)),(.val (.int 1))]) (.call ti [(.slot 0),(.val (.int 8))]))
def GC:Ex:=.tup [(.slot 4),(.slot 11)]
noncomputable def GD(ti:Nat):Option Ex:=some (.cmp .Lt (.call ti [(.slot 0),(.val (.int 4))]) (.bin .Add (.slot 2) (.val (.int 1))))
def lI(ti:Nat):List Sm:=[(.expr (.extend 3 (.comp 10 2 (.nm 11) (.fF (.bin .Add (.slot 4) (.val (.int 1))) (.slot 1)) (GD ti) GC)))]
def Uo(ti:Nat):Sm:=.ite (.cmp .Lt (.slot 2) (.val (.int 3))) [(.loop (.nm 4) (.cC (.slot 1)) (lI ti)),(.ret (.tup [(.slot 1),(.blt .tuple [(.slot 3)])]))] []
noncomputable def Au(tr:Nat):Sm:=.ite (.cmp .Eq (.slot 2) (.val (.int 3))) [(.ret (.call tr [(.slot 0),(.slot 1)]))] []
def Xm(ti tr:Nat):List Sm:=[(.set 6 (.call tr [(.slot 0),(.slot 1)])),(.tgt (.tp [4,5]) (.blt .sorted [(.lst [(.call ti [(.slot 0),(.slot 1)]),(.call ti [(.slot 0),(.slot 1)])])])),(.setC 3 (.comp 10 2 (.nm 11) (.ix (.slot 6) (.val (.int 1))) (some (.cmp .NotEq (.slot 11) (.tup [(.slot 4),(.slot 5)]))) (.slot 11))),(.ite (.and [(.cmp .Lt (.slot 4) (.slot 5)),(.cmp .Eq (.blt .len [(.slot 3)]) (.blt .len [(.ix (.slot 6) (.val (.int 1)))]))]) [(.expr (.append 3 (.tup [(.slot 4),(.slot 5)])))] []),(.ret (.tup [(.slot 1),(.blt .tuple [(.blt .sorted [(.slot 3)])])]))]
def qH(ti tr:Nat):Sm:=.ite (.cmp .Eq (.slot 2) (.val (.int 4))) (Xm ti tr) []
def YH:Sm:=.setC 9 (.comp 10 3 (.tp [11,12]) (.ix (.slot 8) (.val (.int 1))) none (.tup [(.bin .Add (.slot 7) (.slot 11)),(.bin .Add (.slot 7) (.slot 12))]))
def YJ(na mi:Nat):Sm:=.ret (.call na [(.tup [(.bin .Mult (.val (.int 2)) (.slot 7)),(.bin .Add (.ix (.slot 8) (.val (.int 1))) (.blt .tuple [(.slot 9)]))]),(.call mi [(.slot 0),(.bin .Mult (.val (.int 2)) (.slot 7))])])
def oM(ti na mi tr:Nat):Fx:=⟨1,10,[(Gz ti),(.set 2 (.call ti [(.slot 0),(.val (.int 6))])),(.set 3 (.lst [])),(Uo ti),(Au tr),(qH ti tr),(.set 7 (.bin .Add (.val (.int 1)) (.call ti [(.slot 0),(.val (.int 3))]))),(.set 8 (.call tr [(.slot 0),(.slot 7)])),YH,(YJ na mi)]⟩
theorem Ss{rn:Rn}{bor:List Nat}{k:Nat}{α:Type}{kk nn j:Nat}{c:Option Ex}{e:Ex}(eK f:α->D)(gs:Int->G)(hn:∀s,(gs s).length=nn)(hj1:nn<=j)(hj2:j<nn+kk) :
  ∀(items:List α) (s:Int) (m:G) (acc:List D),m.length=kk->acc.length+items.length<=lim->
  (∀a∈items,∀s m acc,m.length=kk->m[j - nn]?=some (.dat (eK a))->∃b s',Bp rn bor k c (gM (gs s) m acc)=some (b,gM (gs s') m acc))->
  (∀a∈items,∀s m acc,m.length=kk->m[j - nn]?=some (.dat (eK a))->gP rn bor k e (gM (gs s) m acc)=some (f a,gM (gs s) m acc))->
  ∃(sub:List α) (s':Int) (m':G),sub.Sublist items/\m'.length=kk/\Ad rn bor k (.nm j) (nn+kk) c e (items.map eK) (gM (gs s) m acc)=some (gM (gs s') m' (acc++sub.map f))
 | [],s,m,acc,hm,_,_,_=>⟨[],s,m,BC _,hm,by simp[Ad]⟩
 |a::items,s,m,acc,hm,hl,hc,he=>by
  rw[kS]at hl;have YG:j - nn<m.length:=by lia
  have q1:(Tg.nm j).set (eK a) (gM (gs s) m acc)=some (gM (gs s) (m.set (j - nn) (.dat (eK a))) acc):=by
   have:=Ge (g:=gs s) (kk:=kk) (j:=j) (d:=eK a) (m:=m) (acc:=acc) (by rw[hn];exact hj1) (by rw[hn];exact YG)
   rw[hn]at this;exact this
  have hm':(m.set (j - nn) (.dat (eK a))).length=kk:=by simpa using hm
  have hg:(m.set (j - nn) (.dat (eK a)))[j - nn]?=some (.dat (eK a)):=by rw[eQ YG]
  obtain⟨b,s',q2⟩:=hc a dA s _ acc hm' hg;rw[List.map_cons];unfold Ad;rw[q1];dsimp only;rw[q2];cases b with
  |false=>
   dsimp only;obtain⟨sub,s2,m2,w1,w2,w3⟩:=Ss eK f gs hn hj1 hj2 items s' _ acc hm' ⋯ (λx hx=>hc x (b0 _ hx)) (λx hx=>he x (b0 _ hx))
   exact⟨sub,s2,m2,w1.cons a,w2,w3⟩
  |true=>
   dsimp only;rw[he a dA s' _ acc hm' hg];dsimp only;have q4:(gM (gs s') (m.set (j - nn) (.dat (eK a))) acc)[nn+kk]?=some (.own acc):=by have:=iM (g:=gs s') (m:=m.set (j - nn) (.dat (eK a))) (acc:=acc);rw[hn,hm']at this;exact this
   rw[q4];dsimp only;rw[fN ⋯];have q5:(gM (gs s') (m.set (j - nn) (.dat (eK a))) acc).set (nn+kk) (.own (acc++[f a]))=gM (gs s') (m.set (j - nn) (.dat (eK a))) (acc++[f a]):=by have:=ig (g:=gs s') (m:=m.set (j - nn) (.dat (eK a))) (acc:=acc) (acc':=acc++[f a]);rw[hn,hm']at this;exact this
   rw[q5];obtain⟨sub,s2,m2,w1,w2,w3⟩:=Ss eK f gs hn hj1 hj2 items s' _ (acc++[f a]) hm' (by rw[gL,AD];lia) (λx hx=>hc x (b0 _ hx)) (λx hx=>he x (b0 _ hx))
   refine⟨a::sub,s2,m2,w1.cons_cons a,w2,?_⟩;rw[w3];simp
theorem Sv{rn:Rn}{bor:List Nat}{k:Nat}{α:Type}{kk nn j:Nat}{it:Ex}{c:Option Ex}{e:Ex}{s:Int}{g:G}(items:List α)(eK f:α->D)(gs:Int->G)(hn:∀s,(gs s).length=nn)(hj1:nn<=j)(hj2:j<nn+kk)(hw:fX rn bor k false it g=some (items.map eK,gs s))(hb:j∉bor)(hl:items.length<=lim)
  (hc:∀a∈items,∀s m acc,m.length=kk->m[j - nn]?=some (.dat (eK a))->∃b s',Bp rn bor k c (gM (gs s) m acc)=some (b,gM (gs s') m acc))
  (he:∀a∈items,∀s m acc,m.length=kk->m[j - nn]?=some (.dat (eK a))->gP rn bor k e (gM (gs s) m acc)=some (f a,gM (gs s) m acc)) :
  ∃(sub:List α) (s':Int),sub.Sublist items/\bZ rn bor k nn kk (.nm j) it c e g=some (sub.map f,gs s'):=by
 obtain⟨sub,s',m',w1,w2,w3⟩:=Ss (rn:=rn) (bor:=bor) (k:=k) (c:=c) (e:=e) eK f gs hn hj1 hj2 items s (List.replicate kk .no) [] ⋯ (by simpa using hl) hc he
 refine⟨sub,s',w1,?_⟩;unfold bZ;rw[show (Tg.nm j).kJ=false from rfl,hw]
 dsimp only;rw[fN ⟨hn s,by simp[Tg.ix,hb]⟩,Gd,w3]
 dsimp only;have:(gM (gs s') m' ([]++sub.map f))[nn+kk]?=some (.own ([]++sub.map f)):=by have:=iM (g:=gs s') (m:=m') (acc:=[]++sub.map f);rw[hn,w2]at this;exact this
 rw[this];dsimp only;have ht:=sr (g:=gs s') (m:=m') (acc:=[]++sub.map f);rw[hn]at ht;rw[ht,v6]
theorem Sw{m:Nat}(hm:1<=m/\m<=6):(prs m).Pairwise λx y=>HT.lexLt x y=true:=by
 obtain⟨h1,h2⟩:=hm
 match m,h1,h2 with
 | 1,_,_=>decide +kernel
 | 2,_,_=>decide +kernel
 | 3,_,_=>decide +kernel
 | 4,_,_=>decide +kernel
 | 5,_,_=>decide +kernel
 | 6,_,_=>decide +kernel
theorem Wb.Lq{m:Nat}(hm:1<=m/\m<=6){l:List (List Int)}(h:l.Sublist (prs m)):Wb m l:=by obtain⟨h1,_,h3⟩:=Sq hm;exact⟨λx hx=>h1 x (h.subset hx),(Sw hm).sublist h,l6 h.length_le h3⟩
section
variable{bor:List Nat}{k n:Nat}{g g1:G}{rn:Nat->Rn}{fns:List Fx}{ti na mi tr:Nat}(U:iY fns rn)(hT:fns[ti]?=some aK)
include U hT
def f2(s:Int)(fl:Bool)(a1 a2 a3 a4 a5 a6 a7 a8 a9:Slot):G:=[St s fl,a1,a2,a3,a4,a5,a6,a7,a8,a9]
theorem Sx(s:Int)(fl:Bool)(m:Nat)(hm:1<=m/\m<=6)(w:Int):∃(l:List (List Int)) (s':Int) (a4:Slot),l.Sublist (prs m)/\aE (rn (n+98)) [0] (k+5) (.loop (.nm 4) (.cC (.slot 1)) (lI ti)) (f2 s fl (.dat (.int m)) (.dat (.int w)) (.own []) .no .no .no .no .no .no)=some (.nx,f2 s' fl (.dat (.int m)) (.dat (.int w)) (.own (l.map λx=>~~~x)) a4 .no .no .no .no .no):=by
 obtain⟨g',⟨j,l,s',a4,h0,h1,h2,rfl⟩,h3⟩:=cO (T:=.nm 4) (b:=(rn (n+98)).b [0] (k+5) (lI ti)) (λ(j:Nat)=>D.int (j:Int))
  (I:=λr g=>∃(j:Nat) (l:List (List Int)) (s':Int) (a4:Slot),j<=m/\r=List.range' j (m - j)/\l.Sublist (pacc m j)/\g=f2 s' fl (.dat (.int m)) (.dat (.int w)) (.own (l.map λx=>~~~x)) a4 .no .no .no .no .no)
  (step:=λa r g h=>by
   obtain⟨j,l,s',a4,h0,h1,h2,rfl⟩:=h;have YG:j<m:=by
    rcases xI j m with h |h
    . exact h
    . rw[Nat.sub_eq_zero_of_le h]at h1;cases h1
   have hc:List.range' j (m - j)=j::List.range' (j+1) (m - (j+1)):=by rw[show m - j=(m - (j+1))+1 by lia,List.range'_succ]
   rw[hc]at h1;injection h1 with e1 e2;subst e1 e2;have aJ:l.length<=36:=l6 h2.length_le (l6 (uR m a) (l6 (Nat.mul_le_mul (show a<=6 by lia) hm.2) ⋯))
   obtain⟨sub,s2,hs,hq⟩:=Sv (rn:=rn (n+95)) (bor:=[0]) (k:=k+5) (kk:=2) (nn:=10) (j:=11) (it:=.fF (.bin .Add (.slot 4) (.val (.int 1))) (.slot 1)) (c:=GD ti) (e:=GC) (s:=s') (g:=f2 s' fl (.dat (.int m)) (.dat (.int w)) (.own (l.map λx=>~~~x)) (.dat (.int a)) .no .no .no .no .no) (List.range (m - (a+1))) (λ(i:Nat)=>D.int ((a:Int)+1+(i:Int))) (λ(i:Nat)=>D.tup [.int (a:Int),.int ((a:Int)+1+(i:Int))]) (λs=>f2 s fl (.dat (.int m)) (.dat (.int w)) (.own (l.map λx=>~~~x)) (.dat (.int a)) .no .no .no .no .no) (λ_=>rfl) ⋯ ⋯ (by
     have e:((m:Int) - ((a:Int)+1)).toNat=m - (a+1):=by lia
     unfold f2;simp! [U,fX,aP ((a:Int)+1) ⋯,aP m ⋯,e,cu]) ⋯ (ao _ (by simp;lia))
    (λx _ s mm acc h1 h2=>by
     obtain⟨r,s2,r1,r2,q⟩:=aR U (n:=n+73) (k:=k+4) (g:=gM (f2 s fl (.dat (.int m)) (.dat (.int w)) (.own (l.map λx=>~~~x)) (.dat (.int a)) .no .no .no .no .no) mm acc) (i:=0) (s:=s) (fl:=fl) (m:=4) rfl ⋯
     have q':aI (rn (n+93)) aK (k+4) [.var 0,.dat (.int 4)] (gM (f2 s fl (.dat (.int m)) (.dat (.int w)) (.own (l.map λx=>~~~x)) (.dat (.int a)) .no .no .no .no .no) mm acc)=some (.dat (.int r),gM (f2 s2 fl (.dat (.int m)) (.dat (.int w)) (.own (l.map λx=>~~~x)) (.dat (.int a)) .no .no .no .no .no) mm acc):=q
     have g0:∀s,(gM (f2 s fl (.dat (.int m)) (.dat (.int w)) (.own (l.map λx=>~~~x)) (.dat (.int a)) .no .no .no .no .no) mm acc)[0]?=some (St s fl):=λ_=>rfl
     have g2:∀s,(gM (f2 s fl (.dat (.int m)) (.dat (.int w)) (.own (l.map λx=>~~~x)) (.dat (.int a)) .no .no .no .no .no) mm acc)[2]?=some (.dat (.int w)):=λ_=>rfl
     refine⟨decide (r<w+1),s2,?_⟩;simp! [U,GD,Bp,hT,g0,g2,q'])
    (λx _ s mm acc h1 h2=>by
     have g4:∀s,(gM (f2 s fl (.dat (.int m)) (.dat (.int w)) (.own (l.map λx=>~~~x)) (.dat (.int a)) .no .no .no .no .no) mm acc)[4]?=some (.dat (.int a)):=λ_=>rfl
     have g11:(gM (f2 s fl (.dat (.int m)) (.dat (.int w)) (.own (l.map λx=>~~~x)) (.dat (.int a)) .no .no .no .no .no) mm acc)[11]?=some (.dat (.int ((a:Int)+1+(x:Int)))):=by
      have:=fY (g:=f2 s fl (.dat (.int m)) (.dat (.int w)) (.own (l.map λx=>~~~x)) (.dat (.int a)) .no .no .no .no .no) (m:=mm) (acc:=acc) (i:=1) ⋯
      exact this.trans h2
     simp! [U,GC,g4,g11,ao 2 ⋯])
   have hsub:(l++sub.map λ(i:Nat)=>[(a:Int),(a:Int)+1+(i:Int)]).Sublist (pacc m (a+1)):=by rw[qG];exact h2.append (hs.map _)
   have es:sub.map (λ(i:Nat)=>D.tup [.int (a:Int),.int ((a:Int)+1+(i:Int))])=(sub.map λ(i:Nat)=>[(a:Int),(a:Int)+1+(i:Int)]).map λx=>~~~x:=by rw[List.map_map];rfl
   rw[es]at hq;have hl2:(sub.map λ(i:Nat)=>[(a:Int),(a:Int)+1+(i:Int)]).length<=6:=by rw[eR];exact l6 hs.length_le (by simp;lia)
   generalize hS:(sub.map λ(i:Nat)=>[(a:Int),(a:Int)+1+(i:Int)])=ss at hq hsub hl2
   have z:l.length+ss.length<=lim:=ao _ ⋯;refine⟨f2 s' fl (.dat (.int m)) (.dat (.int w)) (.own (l.map λx=>~~~x)) (.dat (.int a)) .no .no .no .no .no,f2 s2 fl (.dat (.int m)) (.dat (.int w)) (.own ((l++ss).map λx=>~~~x)) (.dat (.int a)) .no .no .no .no .no,rfl,?_,a+1,l++ss,s2,_,by lia,rfl,hsub,rfl⟩
   rw[t6];unfold lI;unfold f2 at hq ⊢
   simp! [U,hq,z]) (List.range' 0 m) (f2 s fl (.dat (.int m)) (.dat (.int w)) (.own []) .no .no .no .no .no .no) ⟨0,[],s,.no,by lia,rfl,BC _,rfl⟩
 have hj:j=m:=by
  have:(List.range' j (m - j)).length=0:=by rw[<- h1];rfl
  rw[List.length_range']at this;lia
 subst hj;have hr:cu 0 j=(List.range' 0 j).map λ(x:Nat)=>D.int (x:Int):=by unfold cu;rw[BU];exact sR λx _=>by rw[Int.zero_add]
 refine⟨l,s',a4,h2,?_⟩;generalize hb:(rn (n+98)).b [0] (k+5) (lI ti)=bb at h3;unfold f2 at h3 ⊢
 simp! [U,Tg.ix,Tg.kJ,fX,aP j ⋯,hr,hb,h3]
end
section
variable{bor:List Nat}{k n:Nat}{g g1:G}{rn:Nat->Rn}{fns:List Fx}{ti na mi tr:Nat}(U:iY fns rn)(hT:fns[ti]?=some aK)
include U hT
variable(hN:fns[na]?=some fy)(hM:fns[mi]?=some (gA ti))(hR:fns[tr]?=some (gB ti na mi))
include hN hM hR
theorem Sy(s:Int)(fl:Bool)(m:Nat)(hm:1<=m/\m<=6):∃(ak:List (List Int)) (s':Int) (g':G),Wb m ak/\g'[0]?=some (St s' fl)/\(rn (n+99)).b [0] (k+5) (Xm ti tr) (f2 s fl (.dat (.int m)) (.dat (.int 4)) (.own []) .no .no .no .no .no .no)=some (.rt (.dat (W m ak)),g'):=by
 obtain⟨ak,s1,ht,tl,q1⟩:=sF U hT hN hM (n:=n+27) (k:=k+1) (g:=f2 s fl (.dat (.int m)) (.dat (.int 4)) (.own []) .no .no .no .no .no .no) (i:=0) (s:=s) (fl:=fl) m hm rfl;have jJ:aI (rn (n+97)) (gB ti na mi) (k+4) [.var 0,.dat (.int m)] [St s fl,.dat (.int m),.dat (.int 4),.own [],.no,.no,.no,.no,.no,.no]=some (.dat (W m ak),[St s1 fl,.dat (.int m),.dat (.int 4),.own [],.no,.no,.no,.no,.no,.no]):=q1;have e1:aE (rn (n+98)) [0] (k+5) (.set 6 (.call tr [(.slot 0),(.slot 1)])) [St s fl,.dat (.int m),.dat (.int 4),.own [],.no,.no,.no,.no,.no,.no]=some (.nx,[St s1 fl,.dat (.int m),.dat (.int 4),.own [],.no,.no,.dat (W m ak),.no,.no,.no]):=by simp! [U,hR,jJ]
 obtain⟨r1,s2,a1,a2,q2⟩:=aR U (n:=n+75) (k:=k+4) (g:=[St s1 fl,.dat (.int m),.dat (.int 4),.own [],.no,.no,.dat (W m ak),.no,.no,.no]) (i:=0) (s:=s1) (fl:=fl) (m:=(m:Int)) rfl ⋯;have rF:aI (rn (n+95)) aK (k+4) [.var 0,.dat (.int m)] [St s1 fl,.dat (.int m),.dat (.int 4),.own [],.no,.no,.dat (W m ak),.no,.no,.no]=some (.dat (.int r1),[St s2 fl,.dat (.int m),.dat (.int 4),.own [],.no,.no,.dat (W m ak),.no,.no,.no]):=q2;obtain⟨r2,s3,a3,a4,q3⟩:=aR U (n:=n+75) (k:=k+4) (g:=[St s2 fl,.dat (.int m),.dat (.int 4),.own [],.no,.no,.dat (W m ak),.no,.no,.no]) (i:=0) (s:=s2) (fl:=fl) (m:=(m:Int)) rfl ⋯;have Hu:aI (rn (n+95)) aK (k+4) [.var 0,.dat (.int m)] [St s2 fl,.dat (.int m),.dat (.int 4),.own [],.no,.no,.dat (W m ak),.no,.no,.no]=some (.dat (.int r2),[St s3 fl,.dat (.int m),.dat (.int 4),.own [],.no,.no,.dat (W m ak),.no,.no,.no]):=q3;obtain⟨a,b,hab,he⟩:∃a b:Int,(0<=a/\a<=b/\b<m)/\bw [r1,r2]=[a,b]:=by
  rw[show bw [r1,r2]=if r1<=r2 then [r1,r2]else [r2,r1]by simp only[bw,ins]]
  split
  . exact⟨r1,r2,by lia,rfl⟩
  . exact⟨r2,r1,by lia,rfl⟩
 have bs:lD .sorted [.lst [.int r1,.int r2]]=some (.new [.int a,.int b]):=by rw[Lp,he];rfl
 have st:Tg.set (.tp [4,5]) (.lst [.int a,.int b]) [St s3 fl,.dat (.int m),.dat (.int 4),.own [],.no,.no,.dat (W m ak),.no,.no,.no]=some [St s3 fl,.dat (.int m),.dat (.int 4),.own [],.dat (.int a),.dat (.int b),.dat (W m ak),.no,.no,.no]:=rfl;have e2:aE (rn (n+98)) [0] (k+5) (.tgt (.tp [4,5]) (.blt .sorted [(.lst [(.call ti [(.slot 0),(.slot 1)]),(.call ti [(.slot 0),(.slot 1)])])])) [St s1 fl,.dat (.int m),.dat (.int 4),.own [],.no,.no,.dat (W m ak),.no,.no,.no]=some (.nx,[St s3 fl,.dat (.int m),.dat (.int 4),.own [],.dat (.int a),.dat (.int b),.dat (W m ak),.no,.no,.no]):=by simp! [U,hT,rF,Hu,bs,st,Tg.ix,ao 2 ⋯]
 have i1:HD (W m ak) (.int 1)=some (.tup (ak.map λx=>~~~x)):=rfl
 have w3:=Nh (rn:=rn (n+98)) (bor:=[0]) (k:=k+5) (g:=[St s3 fl,.dat (.int m),.dat (.int 4),.own [],.dat (.int a),.dat (.int b),.dat (W m ak),.no,.no,.no]) (g1:=[St s3 fl,.dat (.int m),.dat (.int 4),.own [],.dat (.int a),.dat (.int b),.dat (W m ak),.no,.no,.no]) (kk:=2) (nn:=10) (j:=11) (it:=.ix (.slot 6) (.val (.int 1))) (c:=some (.cmp .NotEq (.slot 11) (.tup [(.slot 4),(.slot 5)]))) (e:=.slot 11) ak (λx=>~~~x) (λx=>!decide (x=[a,b])) (λx=>~~~x) (by simp! [U,fX,i1]) rfl ⋯ ⋯ ⋯ (ao _ ⋯)
  (λx _ G' hG=>by
   have h4:G'[4]?=some (.dat (.int a)):=hG.1 4 ⋯;have h5:G'[5]?=some (.dat (.int b)):=hG.1 5 ⋯;have cn:fz .NotEq (~~~x) (.tup [.int a,.int b])=some (!decide (x=[a,b])):=Gj x [a,b];simp! [U,Bp,hG.2,h4,h5,cn,ao 2 ⋯])
  (λx _ _ G' hG=>by simp! [U,hG.2])
 generalize hF:(ak.filter λx=>!decide (x=[a,b]))=yh at w3
 have e3:aE (rn (n+98)) [0] (k+5) (.setC 3 (.comp 10 2 (.nm 11) (.ix (.slot 6) (.val (.int 1))) (some (.cmp .NotEq (.slot 11) (.tup [(.slot 4),(.slot 5)]))) (.slot 11))) [St s3 fl,.dat (.int m),.dat (.int 4),.own [],.dat (.int a),.dat (.int b),.dat (W m ak),.no,.no,.no]=some (.nx,[St s3 fl,.dat (.int m),.dat (.int 4),.own (yh.map λx=>~~~x),.dat (.int a),.dat (.int b),.dat (W m ak),.no,.no,.no]):=by simp only[aE,w3];simp
 have fs:yh.Sublist ak:=by rw[<- hF];exact List.filter_sublist
 have hfl:=fs.length_le;have z3:yh.length<lim:=eA (u4 _) (ao (yh.length+1) ⋯);obtain⟨l,hl,e4⟩:∃l:List (List Int),((∀x∈l,Pr m x)/\l.Nodup/\l.length<=15)/\aE (rn (n+98)) [0] (k+5) (.ite (.and [(.cmp .Lt (.slot 4) (.slot 5)),(.cmp .Eq (.blt .len [(.slot 3)]) (.blt .len [(.ix (.slot 6) (.val (.int 1)))]))]) [(.expr (.append 3 (.tup [(.slot 4),(.slot 5)])))] []) [St s3 fl,.dat (.int m),.dat (.int 4),.own (yh.map λx=>~~~x),.dat (.int a),.dat (.int b),.dat (W m ak),.no,.no,.no]=some (.nx,[St s3 fl,.dat (.int m),.dat (.int 4),.own (l.map λx=>~~~x),.dat (.int a),.dat (.int b),.dat (W m ak),.no,.no,.no]):=by
  by_cases h1:a<b
  .
   by_cases h2:yh.length=ak.length
   .
    have h2':((yh.length:Nat):Int)=ak.length:=by lia
    have eq:yh=ak:=fs.eq_of_length h2;refine⟨yh++[[a,b]],⟨λx hx=>?_,?_,by simp;lia⟩,?_⟩
    .
     rcases o0.mp hx with hx |hx
     . exact ht.tie x (fs.subset hx)
     . rw[gN]at hx;exact⟨a,b,hx,by lia,h1,by lia⟩
    .
     refine vS.mpr ⟨fs.nodup ht.nodup,by simp,λx hx y hy e=>?_⟩
     rw[gN]at hy;subst e hy;rw[<- hF]at hx;have:=(hV.mp hx).2;simp at this
    . rw[t6];simp! [U,h1,i1,h2',z3,ao 2 ⋯];rfl
   .
    have h2' : ¬ ((yh.length:Nat):Int)=ak.length:=by lia
    refine⟨yh,⟨λx hx=>ht.tie x (fs.subset hx),fs.nodup ht.nodup,by lia⟩,?_⟩
    simp! [U,h1,i1,h2,h2']
  .
   refine⟨yh,⟨λx hx=>ht.tie x (fs.subset hx),fs.nodup ht.nodup,by lia⟩,?_⟩
   simp! [U,h1]
 have bs2:=iu l (λx hx e=>by obtain⟨a,b,e',_⟩:=hl.1 x hx;rw[e']at e;cases e) ⋯
 have e5:aE (rn (n+98)) [0] (k+5) (.ret (.tup [(.slot 1),(.blt .tuple [(.blt .sorted [(.slot 3)])])])) [St s3 fl,.dat (.int m),.dat (.int 4),.own (l.map λx=>~~~x),.dat (.int a),.dat (.int b),.dat (W m ak),.no,.no,.no]=some (.rt (.dat (W m (bM dO l))),[St s3 fl,.dat (.int m),.dat (.int 4),.own (l.map λx=>~~~x),.dat (.int a),.dat (.int b),.dat (W m ak),.no,.no,.no]):=by simp! [U,bs2,ao 2 ⋯];rfl
 have hp:=bT (O:=dO) l;refine⟨bM dO l,s3,[St s3 fl,.dat (.int m),.dat (.int 4),.own (l.map λx=>~~~x),.dat (.int a),.dat (.int b),.dat (W m ak),.no,.no,.no],⟨λx hx=>hl.1 x (hp.mem_iff.mp hx),fj hl.2.1,by rw[hp.length_eq];exact hl.2.2⟩,rfl,?_⟩
 unfold Xm f2;rw[U.b,aC e1,aC e2,aC e3,aC e4];unfold bN;rw[e5]
end
section
variable{bor:List Nat}{k n:Nat}{g g1:G}{rn:Nat->Rn}{fns:List Fx}{ti na mi tr:Nat}(U:iY fns rn)(hT:fns[ti]?=some aK)
include U hT
variable(hN:fns[na]?=some fy)(hM:fns[mi]?=some (gA ti))(hR:fns[tr]?=some (gB ti na mi))
include hN hM hR
def w2h(ti na mi tr:Nat):List Sm:=[(.set 7 (.bin .Add (.val (.int 1)) (.call ti [(.slot 0),(.val (.int 3))]))),(.set 8 (.call tr [(.slot 0),(.slot 7)])),YH,(YJ na mi)]
def sh(h:Nat)(x:List Int):List Int:=[(h:Int)+gt x 0,(h:Int)+gt x 1]
omit U hT hN hM hR in
theorem Sz(h:Nat){m:Nat}{x y:List Int}(hx:Pr m x)(hy:Pr m y)(e:sh h x=sh h y):x=y:=by
 obtain⟨a,b,rfl,_⟩:=hx;obtain⟨c,d,rfl,_⟩:=hy;unfold sh at e;rw[(eY a b).1,(eY a b).2,(eY c d).1,(eY c d).2]at e;simp only[A7,and_true]at e;obtain⟨e1,e2⟩:=e;have:a=c:=by lia
 have:b=d:=by lia
 subst a b;rfl
theorem SJ(s:Int)(fl:Bool)(m w:Int):∃(M:Nat) (ak:List (List Int)) (s':Int) (g':G),(1<=M/\M<=6)/\Wb M ak/\g'[0]?=some (St s' fl)/\bN (rn (n+99)) [0] (k+5) (w2h ti na mi tr) (f2 s fl (.dat (.int m)) (.dat (.int w)) (.own []) .no .no .no .no .no .no)=some (.rt (.dat (W M ak)),g'):=by
 obtain⟨r,s1,a1,a2,q1⟩:=aR U (n:=n+77) (k:=k+4) (g:=[St s fl,.dat (.int m),.dat (.int w),.own [],.no,.no,.no,.no,.no,.no]) (i:=0) (s:=s) (fl:=fl) (m:=3) rfl ⋯;have jJ:aI (rn (n+97)) aK (k+4) [.var 0,.dat (.int 3)] [St s fl,.dat (.int m),.dat (.int w),.own [],.no,.no,.no,.no,.no,.no]=some (.dat (.int r),[St s1 fl,.dat (.int m),.dat (.int w),.own [],.no,.no,.no,.no,.no,.no]):=q1;obtain⟨h,hr,h1,h2⟩:∃h:Nat,1+r=(h:Int)/\1<=h/\h<=3:=⟨(1+r).toNat,by lia,by lia,by lia⟩
 have e1:aE (rn (n+99)) [0] (k+5) (.set 7 (.bin .Add (.val (.int 1)) (.call ti [(.slot 0),(.val (.int 3))]))) [St s fl,.dat (.int m),.dat (.int w),.own [],.no,.no,.no,.no,.no,.no]=some (.nx,[St s1 fl,.dat (.int m),.dat (.int w),.own [],.no,.no,.no,.dat (.int h),.no,.no]):=by simp! [U,hT,jJ,hr]
 obtain⟨ak,s2,ht,tl,q2⟩:=sF U hT hN hM (n:=n+28) (k:=k+1) (g:=[St s1 fl,.dat (.int m),.dat (.int w),.own [],.no,.no,.no,.dat (.int h),.no,.no]) (i:=0) (s:=s1) (fl:=fl) h ⋯ rfl;have rF:aI (rn (n+98)) (gB ti na mi) (k+4) [.var 0,.dat (.int h)] [St s1 fl,.dat (.int m),.dat (.int w),.own [],.no,.no,.no,.dat (.int h),.no,.no]=some (.dat (W h ak),[St s2 fl,.dat (.int m),.dat (.int w),.own [],.no,.no,.no,.dat (.int h),.no,.no]):=q2;have e2:aE (rn (n+99)) [0] (k+5) (.set 8 (.call tr [(.slot 0),(.slot 7)])) [St s1 fl,.dat (.int m),.dat (.int w),.own [],.no,.no,.no,.dat (.int h),.no,.no]=some (.nx,[St s2 fl,.dat (.int m),.dat (.int w),.own [],.no,.no,.no,.dat (.int h),.dat (W h ak),.no]):=by simp! [U,hR,rF]
 have i1:HD (W h ak) (.int 1)=some (.tup (ak.map λx=>~~~x)):=rfl
 have w3:=Gf (rn:=rn (n+99)) (bor:=[0]) (k:=k+5) (g:=[St s2 fl,.dat (.int m),.dat (.int w),.own [],.no,.no,.no,.dat (.int h),.dat (W h ak),.no]) (g1:=[St s2 fl,.dat (.int m),.dat (.int w),.own [],.no,.no,.no,.dat (.int h),.dat (W h ak),.no]) (kk:=3) (nn:=10) (j1:=11) (j2:=12) (it:=.ix (.slot 8) (.val (.int 1))) (e:=.tup [(.bin .Add (.slot 7) (.slot 11)),(.bin .Add (.slot 7) (.slot 12))]) ak (λx=>.int (gt x 0)) (λx=>.int (gt x 1)) (λx=>~~~(sh h x)) (by
   have e:ak.map (λx=>~~~x)=ak.map λx=>.tup [.int (gt x 0),.int (gt x 1)]:=sR λx hx=>by
    obtain⟨a,b,rfl,_⟩:=ht.tie x hx;rfl
   simp! [U,fX,i1,<- e]) rfl ⋯ ⋯ ⋯ ⋯ ⋯ ⋯ ⋯ (ao _ ⋯) λx hx G' hG=>by
  have h7:G'[7]?=some (.dat (.int h)):=hG.1 7 ⋯;have h5:=hG.2.1;have h6:=hG.2.2;unfold sh;simp! [U,h7,h5,h6,ao 2 ⋯];rfl
 have e3:aE (rn (n+99)) [0] (k+5) YH [St s2 fl,.dat (.int m),.dat (.int w),.own [],.no,.no,.no,.dat (.int h),.dat (W h ak),.no]=some (.nx,[St s2 fl,.dat (.int m),.dat (.int w),.own [],.no,.no,.no,.dat (.int h),.dat (W h ak),.own ((ak.map (sh h)).map λx=>~~~x)]):=by unfold YH;simp only[aE,w3];simp
 obtain⟨M,YK⟩:∃M:Nat,M=2 * h:=⟨_,rfl⟩;have e2h:(2:Int) * (h:Int)=(M:Int):=by lia
 have hp:∀x∈ak++ak.map (sh h),Pr M x:=λx hx=>by
  rcases o0.mp hx with hx |hx
  . obtain⟨a,b,e,h⟩:=ht.tie x hx;exact⟨a,b,e,by lia,by lia,by lia⟩
  . obtain⟨y,hy,rfl⟩:=i3.mp hx;obtain⟨a,b,rfl,hh⟩:=ht.tie y hy;exact⟨(h:Int)+a,(h:Int)+b,rfl,by lia,by lia,by lia⟩
 have nd:(ak++ak.map (sh h)).Nodup:=by
  refine vS.mpr ⟨ht.nodup,kX ht.nodup λx hx y hy e=>Sz h (ht.tie x hx) (ht.tie y hy) e,λx hx y hy e=>?_⟩
  obtain⟨z,hz,rfl⟩:=i3.mp hy;obtain⟨a,b,e1,h1⟩:=ht.tie x hx;obtain⟨c,d,e2,h2⟩:=ht.tie z hz;subst e1 e2;unfold sh at e;rw[(eY c d).1,(eY c d).2]at e;simp only[A7,and_true]at e;lia
 have hln:(ak++ak.map (sh h)).length=ak.length+ak.length:=by simp
 obtain⟨row,s3,wV,q4⟩:=yO U hT (n:=n+47) (k:=k+3) (g:=[St s2 fl,.dat (.int m),.dat (.int w),.own [],.no,.no,.no,.dat (.int h),.dat (W h ak),.own ((ak.map (sh h)).map λx=>~~~x)]) (i:=0) (s:=s2) (fl:=fl) M rfl ⋯
 have Xl:aI (rn (n+97)) (gA ti) (k+4) [.var 0,.dat (.int M)] [St s2 fl,.dat (.int m),.dat (.int w),.own [],.no,.no,.no,.dat (.int h),.dat (W h ak),.own ((ak.map (sh h)).map λx=>~~~x)]=some (.dat (~~~row),[St s3 fl,.dat (.int m),.dat (.int w),.own [],.no,.no,.no,.dat (.int h),.dat (W h ak),.own ((ak.map (sh h)).map λx=>~~~x)]):=q4
 have q5:=λn k=>uV U (n:=n) (k:=k) M ⋯ (ak++ak.map (sh h)) hp ⋯ row wV
 rw[t6]at q5;have z:ak.length+ak.length<=lim:=ao _ ⋯;have om:mj .Mult (.int 2) (.int h)=some (.dat (.int M)):=by
  rw[<- e2h];have c:Et 2 (h:Int)=true:=by obtain rfl |rfl |rfl:h=1\/h=2\/h=3:=⋯ <;> decide
  simp only[mj,Eu,c,Ap]
 have oa:mj .Add (.tup (ak.map λx=>~~~x)) (.tup ((ak.map (sh h)).map λx=>~~~x))=some (.dat (.tup ((ak.map λx=>~~~x)++(ak.map (sh h)).map λx=>~~~x))):=by simp only[mj,Kd];rw[fN (by simpa using z)]
 have e4:aE (rn (n+99)) [0] (k+5) (YJ na mi) [St s2 fl,.dat (.int m),.dat (.int w),.own [],.no,.no,.no,.dat (.int h),.dat (W h ak),.own ((ak.map (sh h)).map λx=>~~~x)]=some (.rt (.dat (W M (bM dO ((ak++ak.map (sh h)).map (tm row))))),[St s3 fl,.dat (.int m),.dat (.int w),.own [],.no,.no,.no,.dat (.int h),.dat (W h ak),.own ((ak.map (sh h)).map λx=>~~~x)]):=by unfold YJ;simp! [U,ao 2 ⋯,om,oa,i1,hM,Xl,hN,cZ (fx:=fy) rfl,q5,z]
 have aJ:(bM dO ((ak++ak.map (sh h)).map (tm row))).length=ak.length+ak.length:=by rw[(bT (O:=dO) _).length_eq,eR,hln]
 refine⟨M,bM dO ((ak++ak.map (sh h)).map (tm row)),s3,[St s3 fl,.dat (.int m),.dat (.int w),.own [],.no,.no,.no,.dat (.int h),.dat (W h ak),.own ((ak.map (sh h)).map λx=>~~~x)],by lia,⟨λx hx=>?_,fj (kX nd λx hx y hy e=>Gy wV (hp x hx) (hp y hy) e),by lia⟩,rfl,?_⟩
 . obtain⟨y,hy,rfl⟩:=i3.mp ((bT (O:=dO) _).mem_iff.mp hx);exact Gx wV (hp y hy)
 . unfold w2h f2;rw[aC e1,aC e2,aC e3];unfold bN;rw[e4]
end
section
variable{bor:List Nat}{k n:Nat}{g g1:G}{rn:Nat->Rn}{fns:List Fx}{ti na mi tr:Nat}(U:iY fns rn)(hT:fns[ti]?=some aK)
include U hT
variable(hN:fns[na]?=some fy)(hM:fns[mi]?=some (gA ti))(hR:fns[tr]?=some (gB ti na mi))
include hN hM hR
theorem Lr{i:Nat}{s:Int}{fl:Bool}(hi:g[i]?=some (St s fl)):∃(m:Nat) (ak:List (List Int)) (s':Int),(1<=m/\m<=6)/\Wb m ak/\aI (rn (n+100)) (oM ti na mi tr) (k+5) [.var i] g=some (.dat (W m ak),g.set i (St s' fl)):=by
 obtain⟨r,s1,a1,a2,q1⟩:=aR U (n:=n+77) (k:=k+4) (g:=f2 s fl .no .no .no .no .no .no .no .no .no) (i:=0) (s:=s) (fl:=fl) (m:=8) rfl ⋯;have jJ:aI (rn (n+97)) aK (k+4) [.var 0,.dat (.int 8)] [St s fl,.no,.no,.no,.no,.no,.no,.no,.no,.no]=some (.dat (.int r),[St s1 fl,.no,.no,.no,.no,.no,.no,.no,.no,.no]):=q1;obtain⟨m,hm,hr⟩:∃m:Nat,(1<=m/\m<=6)/\L2.fQ [D.int 6,.int 5,.int 4,.int 6,.int 3,.int 5,.int 2,.int 1] r=some (.int m):=by
  have:r=0\/r=1\/r=2\/r=3\/r=4\/r=5\/r=6\/r=7:=by lia
  rcases this with rfl |rfl |rfl |rfl |rfl |rfl |rfl |rfl
  . exact⟨6,by decide,rfl⟩
  . exact⟨5,by decide,rfl⟩
  . exact⟨4,by decide,rfl⟩
  . exact⟨6,by decide,rfl⟩
  . exact⟨3,by decide,rfl⟩
  . exact⟨5,by decide,rfl⟩
  . exact⟨2,by decide,rfl⟩
  . exact⟨1,by decide,rfl⟩
 have e1:aE (rn (n+99)) [0] (k+5) (Gz ti) (f2 s fl .no .no .no .no .no .no .no .no .no)=some (.nx,f2 s1 fl (.dat (.int m)) .no .no .no .no .no .no .no .no):=by unfold Gz f2;simp! [U,hT,jJ,hr,ao 8 ⋯]
 obtain⟨w,s2,w1,w2,q2⟩:=aR U (n:=n+78) (k:=k+4) (g:=f2 s1 fl (.dat (.int m)) .no .no .no .no .no .no .no .no) (i:=0) (s:=s1) (fl:=fl) (m:=6) rfl ⋯;have rF:aI (rn (n+98)) aK (k+4) [.var 0,.dat (.int 6)] [St s1 fl,.dat (.int m),.no,.no,.no,.no,.no,.no,.no,.no]=some (.dat (.int w),[St s2 fl,.dat (.int m),.no,.no,.no,.no,.no,.no,.no,.no]):=q2;have e2:aE (rn (n+99)) [0] (k+5) (.set 2 (.call ti [(.slot 0),(.val (.int 6))])) (f2 s1 fl (.dat (.int m)) .no .no .no .no .no .no .no .no)=some (.nx,f2 s2 fl (.dat (.int m)) (.dat (.int w)) .no .no .no .no .no .no .no):=by unfold f2;simp! [U,hT,rF]
 have e3:aE (rn (n+99)) [0] (k+5) (.set 3 (.lst [])) (f2 s2 fl (.dat (.int m)) (.dat (.int w)) .no .no .no .no .no .no .no)=some (.nx,f2 s2 fl (.dat (.int m)) (.dat (.int w)) (.own []) .no .no .no .no .no .no):=by unfold f2;simp! [U,ao 0 ⋯]
 obtain⟨M,ak,s3,g',YK,hw,g0,hq⟩:∃(M:Nat) (ak:List (List Int)) (s':Int) (g':G),(1<=M/\M<=6)/\Wb M ak/\g'[0]?=some (St s' fl)/\bN (rn (n+99)) [0] (k+5) ((Uo ti)::(Au tr)::(qH ti tr)::w2h ti na mi tr) (f2 s2 fl (.dat (.int m)) (.dat (.int w)) (.own []) .no .no .no .no .no .no)=some (.rt (.dat (W M ak)),g'):=by
  by_cases c1:w<3
  .
   obtain⟨l,s3,a4,hs,hq⟩:=Sx U hT (n:=n) (k:=k) s2 fl m hm w;refine⟨m,l,s3,f2 s3 fl (.dat (.int m)) (.dat (.int w)) (.own (l.map λx=>~~~x)) a4 .no .no .no .no .no,hm,Wb.Lq hm hs,rfl,?_⟩
   have hb:(rn (n+99)).b [0] (k+5) [(.loop (.nm 4) (.cC (.slot 1)) (lI ti)),(.ret (.tup [(.slot 1),(.blt .tuple [(.slot 3)])]))] (f2 s2 fl (.dat (.int m)) (.dat (.int w)) (.own []) .no .no .no .no .no .no)=some (.rt (.dat (W m l)),f2 s3 fl (.dat (.int m)) (.dat (.int w)) (.own (l.map λx=>~~~x)) a4 .no .no .no .no .no):=by rw[U.b,aC hq];unfold f2;simp! [U,ao 2 ⋯];rfl
   unfold bN;have:aE (rn (n+99)) [0] (k+5) (Uo ti) (f2 s2 fl (.dat (.int m)) (.dat (.int w)) (.own []) .no .no .no .no .no .no)=some (.rt (.dat (W m l)),f2 s3 fl (.dat (.int m)) (.dat (.int w)) (.own (l.map λx=>~~~x)) a4 .no .no .no .no .no):=by
    unfold Uo;generalize ([(.loop (.nm 4) (.cC (.slot 1)) (lI ti)),(.ret (.tup [(.slot 1),(.blt .tuple [(.slot 3)])]))]:List Sm)=bb at hb ⊢
    rw[U.b]at hb;unfold f2 at hb ⊢
    simp! [U,c1,hb]
   rw[this]
  .
   have e4:aE (rn (n+99)) [0] (k+5) (Uo ti) (f2 s2 fl (.dat (.int m)) (.dat (.int w)) (.own []) .no .no .no .no .no .no)=some (.nx,f2 s2 fl (.dat (.int m)) (.dat (.int w)) (.own []) .no .no .no .no .no .no):=by unfold Uo;generalize ([(.loop (.nm 4) (.cC (.slot 1)) (lI ti)),(.ret (.tup [(.slot 1),(.blt .tuple [(.slot 3)])]))]:List Sm)=bb;unfold f2;simp! [U,c1]
   rw[aC e4];by_cases c2:w=3
   .
    subst c2;obtain⟨ak,s3,ht,tl,q3⟩:=sF U hT hN hM (n:=n+27) (k:=k+1) (g:=f2 s2 fl (.dat (.int m)) (.dat (.int 3)) (.own []) .no .no .no .no .no .no) (i:=0) (s:=s2) (fl:=fl) m hm rfl;have Hu:aI (rn (n+97)) (gB ti na mi) (k+4) [.var 0,.dat (.int m)] [St s2 fl,.dat (.int m),.dat (.int 3),.own [],.no,.no,.no,.no,.no,.no]=some (.dat (W m ak),[St s3 fl,.dat (.int m),.dat (.int 3),.own [],.no,.no,.no,.no,.no,.no]):=q3;refine⟨m,ak,s3,f2 s3 fl (.dat (.int m)) (.dat (.int 3)) (.own []) .no .no .no .no .no .no,hm,ht,rfl,?_⟩;have:aE (rn (n+99)) [0] (k+5) (Au tr) (f2 s2 fl (.dat (.int m)) (.dat (.int 3)) (.own []) .no .no .no .no .no .no)=some (.rt (.dat (W m ak)),f2 s3 fl (.dat (.int m)) (.dat (.int 3)) (.own []) .no .no .no .no .no .no):=by unfold Au f2;simp! [U,hR,Hu]
    unfold bN;rw[this]
   .
    have e5:aE (rn (n+99)) [0] (k+5) (Au tr) (f2 s2 fl (.dat (.int m)) (.dat (.int w)) (.own []) .no .no .no .no .no .no)=some (.nx,f2 s2 fl (.dat (.int m)) (.dat (.int w)) (.own []) .no .no .no .no .no .no):=by unfold Au f2;simp! [U,c2]
    rw[aC e5];by_cases c3:w=4
    .
     subst c3;obtain⟨ak,s3,g',ht,hg,q3⟩:=Sy U hT hN hM hR (n:=n) (k:=k) s2 fl m hm;refine⟨m,ak,s3,g',hm,ht,hg,?_⟩;have:aE (rn (n+99)) [0] (k+5) (qH ti tr) (f2 s2 fl (.dat (.int m)) (.dat (.int 4)) (.own []) .no .no .no .no .no .no)=some (.rt (.dat (W m ak)),g'):=by
      unfold qH;generalize Xm ti tr=bb at q3 ⊢
      rw[U.b]at q3;unfold f2 at q3 ⊢
      simp! [U,q3]
     unfold bN;rw[this]
    .
     have e6:aE (rn (n+99)) [0] (k+5) (qH ti tr) (f2 s2 fl (.dat (.int m)) (.dat (.int w)) (.own []) .no .no .no .no .no .no)=some (.nx,f2 s2 fl (.dat (.int m)) (.dat (.int w)) (.own []) .no .no .no .no .no .no):=by unfold qH;generalize Xm ti tr=bb;unfold f2;simp! [U,c3]
     rw[aC e6];exact SJ U hT hN hM hR (n:=n) (k:=k) s2 fl m w
 refine⟨M,ak,s3,YK,hw,?_⟩;have hpd:dh (oM ti na mi tr).n [St s fl]=f2 s fl .no .no .no .no .no .no .no .no .no:=rfl;have body:(rn (n+100)).b [0] (k+5) (oM ti na mi tr).body (f2 s fl .no .no .no .no .no .no .no .no .no)=some (.rt (.dat (W M ak)),g'):=by unfold oM;rw[U.b,aC e1,aC e2,aC e3];exact hq
 unfold aI;simp only[vars,bY,hi,List.map_cons,List.map_nil];rw[fN ⟨rfl,by simp⟩,hpd,body]
 simp only[back,g0,cV]
end
def Ls(mw w:Nat):Fx:=⟨2,2,[(.expr (.call mw [(.slot 0),(.val (.int 1)),(.val (.int 6))])),(.ite (.or [(.not (.mh (.slot 1) "tuple")),(.not (.blt .all [(.comp 2 2 (.nm 3) (.slot 1) none (.call w [(.slot 3)]))]))]) [(.ret (.val (.bl false)))] []),(.ret (.cmp .Eq (.blt .sorted [(.slot 1)]) (.gq (.slot 0))))]⟩
theorem oN{α:Type}(l:List α)(i j:Option Int):(iR l i j).length<=l.length:=by unfold iR;rw[t9,List.length_drop];lia
theorem GF:mj .Pow (.int 10) (.int 29)=some (.dat (.int (10 ^ 29))):=by rfl
def SM:Fx:=⟨2,3,[(.set 2 (.lst [(.slot 1)])),(.while (.cmp .NotEq (.ix (.slot 0) (.ix (.slot 2) (.neg (.val (.int 1))))) (.slot 1)) [(.expr (.append 2 (.ix (.slot 0) (.ix (.slot 2) (.neg (.val (.int 1)))))))]),(.ret (.blt .tuple [(.slot 2)]))]⟩
def SN(rf:Nat):Fx:=⟨2,3,[(.setC 2 (.comp 3 2 (.nm 4) (.slot 1) none (.call rf [(.slot 0),(.slot 4)]))),(.ret (.comp 3 2 (.nm 4) (.slot 2) (some (.cmp .Eq (.ix (.slot 4) (.val (.int 0))) (.blt .min [(.slot 4)]))) (.slot 4)))]⟩
noncomputable def Lv(mt al:Nat):Fx:=⟨2,2,[(.expr (.call mt [(.slot 0),(.slot 1)])),(.ret (.call al [(.slot 1),(.gq (.slot 0))]))]⟩
section
variable{k n:Nat}{g g1:G}{rn:Nat->Rn}{fns:List Fx}{w wi mw it ci cj mt rf al ro:Nat}(U:iY fns rn)
include U
def GJ(l:List Int):Int:=l.getLastD 0
def rfw(t:List Int)(s:Int):Nat->List Int->Option (List Int)
 | 0,acc=>if gt t (GJ acc)=s then some acc else none
 |f+1,acc=>if gt t (GJ acc)=s then some acc else rfw t s f (acc++[gt t (GJ acc)])
def rnd(t:List Int)(s:Int):List Int:=(rfw t s 6 [s]).getD []
def Ends(m:Nat)(t:List Int):Prop:=∀s:Int,0<=s/\s<m->(rfw t s 6 [s]).isSome=true/\rnd t s≠[]
variable(hR:fns[rf]?=some SM)
include hR
variable(hW:fns[w]?=some bx)(hI:fns[wi]?=some (bO w))(hT:fns[it]?=some (Ls mw w))(hA:fns[al]?=some (SN rf))
include hW hI hT hA
variable(hRo:fns[ro]?=some (Lv mt al))
include hRo
end
noncomputable def kup:Nat->Nat->Nat->List (List Int)
 | 0,_,_=>[]
 |f+1,cF,most=>if cF=0 then [[]]else (List.range (min cF most)).flatMap λ(i:Nat)=>(kup f (cF - (i+1)) (i+1)).map ((((i+1:Nat):Int)) :: ·)
def kinds(m:Nat):List (List Int):=kup (m+1) m m
noncomputable def adj:List Int->Bool
 |a::b::l=>decide (a ≥ b)&&adj (b::l)
 |_=>true
def oO:Fx:=⟨1,1,[(.ret (.blt .all [(.comp 1 2 (.nm 2) (.fF (.val (.int 1)) (.blt .len [(.slot 0)])) none (.cmp .GtE (.ix (.slot 0) (.bin .Sub (.slot 2) (.val (.int 1)))) (.ix (.slot 0) (.slot 2))))]))]⟩
def Lw(mw w fa:Nat):Fx:=⟨2,2,[(.expr (.call mw [(.slot 0),(.val (.int 1)),(.val (.int 9))])),(.ite (.not (.mh (.slot 1) "tuple")) [(.ret (.val (.bl false)))] []),(.ite (.not (.blt .all [(.comp 2 2 (.nm 3) (.slot 1) none (.and [(.call w [(.slot 3)]),(.cmp .GtE (.slot 3) (.val (.int 1)))]))])) [(.ret (.val (.bl false)))] []),(.ret (.and [(.cmp .Eq (.blt .sum [(.slot 1)]) (.slot 0)),(.call fa [(.slot 1)])]))]⟩
def SQ(t:List Int):Bool:=(List.range (t.length - 1)).all λi=>decide (gt t i ≥ gt t (i+1))
theorem yP(a:Int)(l:List Int)(i:Nat):gt (a::l) ((i:Int)+1)=gt l i:=by
 unfold gt;rw[show ((i:Int)+1).toNat=i+1 by lia,show (i:Int).toNat=i by lia]
 simp
theorem yQ:∀t:List Int,SQ t=adj t
 | []=>rfl
 | [a]=>rfl
 |a::b::l=>by
  have ih:=yQ (b::l);unfold SQ at ih ⊢
  simp only[kS,Nat.add_sub_cancel]at ih ⊢
  rw[List.range_succ_eq_map,List.all_cons,Cs,adj,<- ih];have:∀i:Nat,decide (gt (a::b::l) ((i+1:Nat):Int) ≥ gt (a::b::l) (((i+1:Nat):Int)+1))=decide (gt (b::l) (i:Int) ≥ gt (b::l) ((i:Int)+1)):=λi=>by
   rw[show ((i+1:Nat):Int)=(i:Int)+1 by lia,yP,show (i:Int)+1+1=((i+1:Nat):Int)+1 by lia,yP,show ((i+1:Nat):Int)=(i:Int)+1 by lia]
  have h2:(λi:Nat=>decide (gt (a::b::l) (i:Int) ≥ gt (a::b::l) ((i:Int)+1))) ∘ Nat.succ=λi:Nat=>decide (gt (b::l) (i:Int) ≥ gt (b::l) ((i:Int)+1)):=funext this
  rw[h2];rfl
section
variable{k n:Nat}{g g1:G}{rn:Nat->Rn}{fns:List Fx}{w wi mw fa ik ci cj:Nat}(U:iY fns rn)
include U
theorem Lx(t:List Int)(h:t.length<=1000):cY (rn (n+20)) k oO [~~~t]=some (.dat (.bl (adj t))):=by
 have w1:∀n k,bZ (rn (n+10)) [] k 1 2 (.nm 2) (.fF (.val (.int 1)) (.blt .len [(.slot 0)])) none (.cmp .GtE (.ix (.slot 0) (.bin .Sub (.slot 2) (.val (.int 1)))) (.ix (.slot 0) (.slot 2))) [.dat (~~~t)]=some (((List.range (t.length - 1)).map λ(i:Nat)=>decide (gt t i ≥ gt t (i+1))).map .bl,[.dat (~~~t)]):=λn k=>by
  rw[List.map_map];refine lG (rn:=rn (n+10)) (bor:=[]) (k:=k) (g:=[.dat (~~~t)]) (g1:=[.dat (~~~t)]) (kk:=2) (nn:=1) (j:=2) (List.range (t.length - 1)) (λ(i:Nat)=>D.int (1+(i:Int))) (λ(i:Nat)=>.bl (decide (gt t i ≥ gt t (i+1)))) ?_ rfl ⋯ ⋯ ⋯ (ao _ (by rw[BF];lia)) λi hi G' hG=>?_
  .
   have hr:((t.length:Int) - 1).toNat=t.length - 1:=by lia
   have o1:=aP 1 ⋯;have o2:=aP (t.length:Int) ⋯;simp! [U,fX,o1,o2,cu,hr]
  .
   have h0:=hG.1 0 ⋯;have h2:=hG.2;rw[tP]at hi;have a1:L2.fQ (t.map D.int) (1+(i:Int) - 1)=some (.int (gt t i)):=by rw[show 1+(i:Int) - 1=(i:Int)by lia];exact iz ⋯
   have a2:L2.fQ (t.map D.int) (1+(i:Int))=some (.int (gt t (i+1))):=by rw[show 1+(i:Int)=(i:Int)+1 by lia];exact iz ⋯
   simp only[List.getElem?_cons_zero]at h0;simp! [U,h0,h2,a1,a2]
 have e:((List.range (t.length - 1)).map λ(i:Nat)=>decide (gt t i ≥ gt t (i+1))).all id=adj t:=by rw[<- yQ];unfold SQ;rw[Cs];rfl
 unfold cY oO;simp! [U,w1,e]
variable(hW:fns[w]?=some bx)(hF:fns[fa]?=some oO)(hI:fns[wi]?=some (bO w))
include hW hF hI
variable(hK:fns[ik]?=some (Lw mw w fa))
include hK
end
def bW(wi fa:Nat):Fx:=⟨1,1,[(.ite (.or [(.not (.mh (.slot 0) "tuple")),(.not (.chain (.val (.int 1)) [.LtE,.LtE] [(.blt .len [(.slot 0)]),(.val (.int 12))]))]) [(.ret (.val (.bl false)))] []),(.ret (.and [(.blt .all [(.comp 1 2 (.nm 2) (.slot 0) none (.call wi [(.slot 2),(.val (.int 0)),(.bin .Sub (.blt .len [(.slot 0)]) (.val (.int 1)))]))]),(.call fa [(.slot 0)])]))]⟩
def aZ(w:Nat):Fx:=⟨1,1,[(.ite (.or [(.not (.mh (.slot 0) "tuple")),(.not (.chain (.val (.int 1)) [.LtE,.LtE] [(.blt .len [(.slot 0)]),(.val (.int 12))]))]) [(.ret (.val (.bl false)))] []),(.ite (.not (.blt .all [(.comp 1 2 (.nm 2) (.slot 0) none (.and [(.call w [(.slot 2)]),(.chain (.val (.int 0)) [.LtE,.Lt] [(.slot 2),(.blt .len [(.slot 0)])])]))])) [(.ret (.val (.bl false)))] []),(.ret (.cmp .Eq (.blt .list [(.slot 0)]) (.eX (.slot 0))))]⟩
def Nk:D->Prop
 |.tup l=>l.length<=40
 |_=>True
def GK(l:List D):Bool:=l.all (sS 0 ((l.length:Int) - 1))
def wW:D->Bool
 |.tup l=>decide (1<=l.length/\l.length<=12)&&(GK l&&match bL l with |some t=>adj t |none=>false)
 |_=>false
theorem yR{l:List D}(h:1<=l.length/\l.length<=12):wW (.tup l)=(GK l&&match bL l with |some t=>adj t |none=>false):=by
 show (decide (1<=l.length/\l.length<=12)&&(GK l&&match bL l with |some t=>adj t |none=>false))=_
 rw[u8 h,Bool.true_and]
theorem jX{l:List D}(h : ¬ (1<=l.length/\l.length<=12)):wW (.tup l)=false:=by
 show (decide (1<=l.length/\l.length<=12)&&(GK l&&match bL l with |some t=>adj t |none=>false))=_
 rw[nV h,CA]
theorem uW{l:List D}(h:GK l=true):∃t:List Int,l=t.map .int:=qF (mP.mpr λx hx=>by
 have:=mP.mp h x hx;cases x <;> first |rfl |cases this)
theorem GL:∀t:List Int,adj t=true ↔ t.Pairwise (· ≥ ·)
 | []=>by simp[adj]
 | [a]=>by simp[adj]
 |a::b::l=>by
  have ih:=GL (b::l);rw[adj,eP,ih,hU];constructor
  .
   rintro⟨h1,h2⟩;refine nS.mpr ⟨λx hx=>?_,h2⟩
   rcases d0.mp hx with rfl |hx
   . exact h1
   . have:=(nS.mp h2).1 x hx;lia
  . intro h;exact⟨(nS.mp h).1 b dA,(nS.mp h).2⟩
theorem Ly(t:List Int):decide (t=(bw t).reverse)=adj t:=by
 rw[Bool.eq_iff_iff,hU,GL];constructor
 . intro h;rw[h,BN];exact fU t
 . intro h;have:=fV (List.reverse_perm t) (BN.mpr h);rw[<- this,List.reverse_reverse]
section
variable{k n:Nat}{g g1:G}{rn:Nat->Rn}{fns:List Fx}{w wi fa:Nat}(U:iY fns rn)(hW:fns[w]?=some bx)
include U hW
theorem uX(hI:fns[wi]?=some (bO w))(hF:fns[fa]?=some oO)(d:D)(hd:Nk d):cY (rn (n+40)) (k+2) (bW wi fa) [d]=some (.dat (.bl (wW d))):=by
 cases d with
 |tup l=>
  have hd:l.length<=40:=hd;by_cases c1:1<=l.length
  .
   by_cases c2:l.length<=12
   .
    have wX:(1:Int)<=l.length:=by lia
    have GP:(l.length:Int)<=12:=by lia
    have o:∀n k,bZ (rn (n+20)) [] (k+2) 1 2 (.nm 2) (.slot 0) none (.call wi [(.slot 2),(.val (.int 0)),(.bin .Sub (.blt .len [(.slot 0)]) (.val (.int 1)))]) [.dat (.tup l)]=some ((l.map (sS 0 ((l.length:Int) - 1))).map .bl,[.dat (.tup l)]):=λn k=>by
     rw[List.map_map];have:=lG (rn:=rn (n+20)) (bor:=[]) (k:=k+2) (g:=[.dat (.tup l)]) (g1:=[.dat (.tup l)]) (kk:=2) (nn:=1) (j:=2) (it:=.slot 0) (e:=.call wi [(.slot 2),(.val (.int 0)),(.bin .Sub (.blt .len [(.slot 0)]) (.val (.int 1)))]) l id (λx=>.bl (sS 0 ((l.length:Int) - 1) x)) (by simp! [U,fX]) rfl ⋯ ⋯ ⋯ (ao _ ⋯) λa _ G' hG=>by
      have h0:G'[0]?=some (.dat (.tup l)):=hG.1 0 ⋯;have h2:=hG.2;simp only[id]at h2;simp! [U,h0,h2,hI,sA (fx:=bO w) rfl,kY U hW]
     exact this
    have ea:(l.map (sS 0 ((l.length:Int) - 1))).all id=GK l:=by simp[Cs,GK]
    rw[yR ⟨c1,c2⟩];cases e:GK l with
    |false=>rw[e]at ea;unfold cY bW;simp! [U,wX,GP,o,ea]
    |true=>
     rw[e]at ea;obtain⟨t,rfl⟩:=uW e;have tl:t.length<=12:=by simpa using c2
     have fa':=λn k=>Lx U (n:=n) (k:=k) t ⋯
     rw[ints_map];unfold cY bW;simp only[eR]at wX GP o ea;simp! [U,wX,GP,o,ea,hF,bG (fx:=oO) rfl,fa']
   .
    have wX:(1:Int)<=l.length:=by lia
    have GP : ¬ (l.length:Int)<=12:=by lia
    rw[jX ⋯];unfold cY bW;simp! [U,wX,GP]
  .
   have wX : ¬ (1:Int)<=l.length:=by lia
   rw[jX ⋯];unfold cY bW;simp! [U,wX]
 |_=>unfold cY bW;simp! [U,eL,nF,wW]
theorem oR(d:D)(hd:Nk d):cY (rn (n+40)) (k+2) (aZ w) [d]=some (.dat (.bl (wW d))):=by
 cases d with
 |tup l=>
  have hd:l.length<=40:=hd;by_cases c1:1<=l.length
  .
   by_cases c2:l.length<=12
   .
    have wX:(1:Int)<=l.length:=by lia
    have GP:(l.length:Int)<=12:=by lia
    have o:∀n k,bZ (rn (n+20)) [] (k+2) 1 2 (.nm 2) (.slot 0) none (.and [(.call w [(.slot 2)]),(.chain (.val (.int 0)) [.LtE,.Lt] [(.slot 2),(.blt .len [(.slot 0)])])]) [.dat (.tup l)]=some ((l.map (sS 0 ((l.length:Int) - 1))).map .bl,[.dat (.tup l)]):=λn k=>by
     rw[List.map_map];have:=lG (rn:=rn (n+20)) (bor:=[]) (k:=k+2) (g:=[.dat (.tup l)]) (g1:=[.dat (.tup l)]) (kk:=2) (nn:=1) (j:=2) (it:=.slot 0) (e:=.and [(.call w [(.slot 2)]),(.chain (.val (.int 0)) [.LtE,.Lt] [(.slot 2),(.blt .len [(.slot 0)])])]) l id (λx=>.bl (sS 0 ((l.length:Int) - 1) x)) (by simp! [U,fX]) rfl ⋯ ⋯ ⋯ (ao _ ⋯) λa _ G' hG=>by
      have h0:G'[0]?=some (.dat (.tup l)):=hG.1 0 ⋯;have h2:=hG.2;simp only[id]at h2;cases a with
      |int i=>
       by_cases h3:0<=i
       .
        by_cases h4:i<l.length
        . have:sS 0 ((l.length:Int) - 1) (.int i)=true:=u8 ⋯;simp! [U,h0,h2,hW,bG (fx:=bx) rfl,dP U,isInt,this,h3,h4]
        . have:sS 0 ((l.length:Int) - 1) (.int i)=false:=nV ⋯;simp! [U,h0,h2,hW,bG (fx:=bx) rfl,dP U,isInt,this,h3,h4]
       . have:sS 0 ((l.length:Int) - 1) (.int i)=false:=nV ⋯;simp! [U,h0,h2,hW,bG (fx:=bx) rfl,dP U,isInt,this,h3]
      |_=>simp! [U,h0,h2,hW,bG (fx:=bx) rfl,dP U,isInt,sS]
     exact this
    have ea:(l.map (sS 0 ((l.length:Int) - 1))).all id=GK l:=by simp[Cs,GK]
    rw[yR ⟨c1,c2⟩];cases e:GK l with
    |false=>rw[e]at ea;unfold cY aZ;simp! [U,wX,GP,o,ea]
    |true=>
     rw[e]at ea;obtain⟨t,rfl⟩:=uW e;have tl:t.length<64:=by have:t.length<=12:=(by simpa using c2);lia
     rw[ints_map];dsimp only;rw[Bool.true_and,<- Ly];have ce:fz .Eq (.lst (t.map .int)) (.lst (List.map D.int (bw t)).reverse)=some (decide (t=(bw t).reverse)):=by rw[<- List.map_reverse,Gk]
     unfold cY aZ;simp only[eR]at wX GP o ea;simp! [U,wX,GP,o,ea,dF,ints_map,tl,ce]
   .
    have wX:(1:Int)<=l.length:=by lia
    have GP : ¬ (l.length:Int)<=12:=by lia
    rw[jX ⋯];unfold cY aZ;simp! [U,wX,GP]
  .
   have wX : ¬ (1:Int)<=l.length:=by lia
   rw[jX ⋯];unfold cY aZ;simp! [U,wX]
 |_=>unfold cY aZ;simp! [U,eL,nF,wW]
end
def Xn(i:Int)(x:List Int):Option Int:=if gt x 0=i then some (gt x 1)else if gt x 1=i then some (gt x 0)else none
def nb(i:Int)(ak:List (List Int)):List Int:=ak.filterMap (Xn i)
noncomputable def has(i:Int)(x:List Int):Bool:=decide (gt x 0=i)||decide (gt x 1=i)
theorem SX(i:Int)(ak:List (List Int)):(nb i ak).length=ak.countP (has i):=by
 induction ak with
 |nil=>rfl
 |cons x l ih=>
  unfold nb at ih ⊢
  rw[mI,List.countP_cons];by_cases h1:gt x 0=i
  . simp[Xn,has,h1,ih]
  .
   by_cases h2:gt x 1=i
   . simp[Xn,has,h1,h2,ih]
   . simp[Xn,has,h1,h2,ih]
theorem pL{m:Nat}(F:Nat->List Int)(a:Nat)(v:List Int):((List.range m).map λi=>(F i).map D.int).set a (v.map .int)=(List.range m).map λi=>(if i=a then v else F i).map D.int:=by
 refine List.ext_getElem ⋯ λi h1 h2=>?_
 rw[List.getElem_set];simp only[List.getElem_map,List.getElem_range];by_cases h:a=i
 . subst h;simp
 . rw[fR h,fR λe=>h e.symm]
theorem uY{m:Nat}:∀(ak:List (List Int)) (F:Nat->List Int) (c:Nat),(∀x∈ak,Pr m x)->(∀i,(F i).length<=c)->c+ak.length<=900->
  g5 (ak.map λx=>~~~x) ((List.range m).map λi=>(F i).map D.int)=some ((List.range m).map λi=>(F i++nb (i:Int) ak).map D.int)
 | [],F,c,_,_,_=>by simp[g5,nb]
 |x::ak,F,c,hx,hF,hc=>by
  obtain⟨a,b,rfl,h1,h2,h3⟩:=hx x dA;obtain⟨a,rfl⟩:∃n:Nat,a=n:=⟨a.toNat,by lia⟩
  obtain⟨b,rfl⟩:∃n:Nat,b=n:=⟨b.toNat,by lia⟩
  rw[kS]at hc;have ga:((List.range m).map λi=>(F i).map D.int)[a]?=some ((F a).map D.int):=by rw[oP,B9 ⋯];rfl
  have la:((F a).map D.int).length<1000:=by rw[eR];have:=hF a;lia
  have e1:(F a).map D.int++[.int b]=(F a++[(b:Int)]).map D.int:=by rw[t6];rfl
  have gb:((List.range m).map λi=>(if i=a then F a++[(b:Int)]else F i).map D.int)[b]?=some ((F b).map D.int):=by rw[oP,B9 ⋯];simp only[AY];rw[fR ⋯]
  have lb:((F b).map D.int).length<1000:=by rw[eR];have:=hF b;lia
  have e2:(F b).map D.int++[.int a]=(F b++[(a:Int)]).map D.int:=by rw[t6];rfl
  have q:uA ((List.range m).map λi=>(F i).map D.int) (.tup [.int a,.int b])=some ((List.range m).map λi=>(if i=b then F b++[(a:Int)]else if i=a then F a++[(b:Int)]else F i).map D.int):=by
   unfold uA;dsimp only;rw[fN (show (0:Int)<=a/\(0:Int)<=b by lia)]
   simp only[tJ,ga,la,Ap,e1,pL,gb,lb,e2]
  have ih:=uY ak (λi=>if i=b then F b++[(a:Int)]else if i=a then F a++[(b:Int)]else F i) (c+1) (λx hx'=>hx x (b0 _ hx')) (λi=>by
   show (if i=b then F b++[(a:Int)]else if i=a then F a++[(b:Int)]else F i).length<=c+1
   have:=hF a;have:=hF b;have:=hF i;split
   . simp;lia
   .
    split
    . simp;lia
    .
     lia) ⋯
  have e3:List.map (λx=>~~~x) ([(a:Int),(b:Int)]::ak)=.tup [.int a,.int b]::ak.map λx=>~~~x:=rfl
  rw[e3];unfold g5;rw[q];dsimp only;rw[ih]
  congr 1
  refine sR λi hi=>?_
  congr 1
  unfold nb;rw[mI];unfold Xn;rw[(eY (a:Int) b).1,(eY (a:Int) b).2];by_cases q1:i=a
  . subst q1;rw[fR ⋯,fN rfl,fN rfl];simp
  .
   by_cases q2:i=b
   . subst q2;rw[fN rfl,fR ⋯,fN rfl];simp
   . rw[fR q2,fR q1,fR ⋯,fR ⋯]
noncomputable def oU:Fx:=⟨2,5,[(.rows 0 1 2 3 4)]⟩
noncomputable def Xo:Fx:=⟨3,3,[(.ite (.cmp .NotEq (.blt .len [(.slot 1)]) (.blt .len [(.slot 2)])) [(.ret (.val (.bl false)))] []),(.ret (.blt .all [(.comp 3 3 (.tp [4,5]) (.rev (.slot 0)) none (.cmp .Eq (.cmp .In (.slot 4) (.slot 1)) (.cmp .In (.slot 5) (.slot 2))))]))]⟩
def Rw(m:Nat)(ak:List (List Int)):D:=.lst ((List.range m).map λ(i:Nat)=>.lst ((nb (i:Int) ak).map .int))
section
variable{ro fi:Nat}(U:iY fns rn)
include U
theorem Lz(m:Nat)(hm:m<=6)(ak:List (List Int))(h:Wb m ak):cY (rn (n+5)) k oU [.int m,.tup (ak.map λx=>~~~x)]=some (.dat (Rw m ak)):=by
 have q:=uY (m:=m) ak (λ_=>[]) 0 h.tie (λ_=>d5 0) (by have:=h.len;lia)
 have e:(List.range m).map (λi=>List.map D.int ((λ_=>[]) i:List Int))=List.replicate m []:=by rw[List.eq_replicate_iff];simp
 rw[e]at q;have h0:(0:Int)<=m/\(m:Int)<=1000:=by lia
 unfold cY oU;simp! [U,q,h0];unfold Rw;rw[List.map_map];simp
variable(hR:fns[ro]?=some oU)(hF:fns[fi]?=some Xo)
include hR hF
end
def cP(mw ro:Nat):Fx:=⟨1,3,[(.expr (.call mw [(.slot 0)])),(.tgt (.tp [1,2]) (.slot 0)),(.ret (.blt .tuple [(.eX (.comp 3 2 (.nm 4) (.call ro [(.slot 1),(.slot 2)]) none (.blt .len [(.slot 4)])))]))]⟩
def qI:Fx:=⟨2,2,[(.ret (.comp 2 3 (.tp [3,4]) (.ix (.slot 0) (.val (.int 1))) (some (.cmp .In (.slot 1) (.tup [(.slot 3),(.slot 4)]))) (.bin .Sub (.bin .Add (.slot 3) (.slot 4)) (.slot 1))))]⟩
def GQ(ne:Nat):Fx:=⟨1,1,[(.ret (.blt .tuple [(.eX (.comp 1 2 (.nm 2) (.cC (.ix (.slot 0) (.val (.int 0)))) none (.blt .len [(.call ne [(.slot 0),(.slot 2)])])))]))]⟩
def cn(m:Nat)(ak:List (List Int)):List Int:=(List.range m).map λ(i:Nat)=>((nb (i:Int) ak).length:Int)
theorem wY(m:Nat)(ak:List (List Int)):(cn m ak).length=m:=by simp[cn]
def S0(m:Nat)(ak:List (List Int)):List Int:=(bw (cn m ak)).reverse
theorem S8(i a b:Int):fz .In (.int i) (.tup [.int a,.int b])=some (decide (a=i)||decide (b=i)):=by
 have h:Ke (.int i) [.int a,.int b]=true:=by have:=kP [a,b];have:=kU [a,b];simp_all [Ke,jz]
 simp only[fz,dF,h,Ap]
 congr 1
 rw[Bool.eq_iff_iff];simp[cM]
section
variable{k n:Nat}{g g1:G}{rn:Nat->Rn}{fns:List Fx}{w wi it ri iw ci mw ro ne:Nat}(U:iY fns rn)
include U
theorem LC(m:Nat)(ak:List (List Int))(h:Wb m ak)(i:Int):cY (rn (n+20)) k qI [W m ak,.int i]=some (.new ((ak.filter (has i)).map λx=>.int (gt x 0+gt x 1 - i))):=by
 have htl:=h.len;have i1:HD (W m ak) (.int 1)=some (.tup (ak.map λx=>~~~x)):=rfl
 have w:=λn k=>Ni (rn:=rn (n+12)) (bor:=[]) (k:=k) (g:=[.dat (W m ak),.dat (.int i)]) (g1:=[.dat (W m ak),.dat (.int i)]) (kk:=3) (nn:=2) (j1:=3) (j2:=4) (it:=.ix (.slot 0) (.val (.int 1))) (c:=some (.cmp .In (.slot 1) (.tup [(.slot 3),(.slot 4)]))) (e:=.bin .Sub (.bin .Add (.slot 3) (.slot 4)) (.slot 1)) ak (λx=>.int (gt x 0)) (λx=>.int (gt x 1)) (has i) (λx=>.int (gt x 0+gt x 1 - i)) (by
   have e:ak.map (λx=>~~~x)=ak.map λx=>.tup [.int (gt x 0),.int (gt x 1)]:=sR λx hx=>by
    obtain⟨a,b,rfl,_⟩:=h.tie x hx;rfl
   simp! [U,fX,i1,<- e]) rfl ⋯ ⋯ ⋯ ⋯ ⋯ ⋯ ⋯ (ao _ ⋯)
  (λx _ G' hG=>by
   have h1:G'[1]?=some (.dat (.int i)):=hG.1 1 ⋯;simp! [U,Bp,h1,hG.2.1,hG.2.2,S8,ao 2 ⋯];rfl)
  (λx _ _ G' hG=>by
   have h1:G'[1]?=some (.dat (.int i)):=hG.1 1 ⋯;simp! [U,h1,hG.2.1,hG.2.2])
 unfold cY qI;simp! [U,w]
theorem S9(hN:fns[ne]?=some qI)(m:Nat)(hm:1<=m/\m<=6)(ak:List (List Int))(h:Wb m ak):cY (rn (n+60)) (k+1) (GQ ne) [W m ak]=some (.dat (~~~(S0 m ak))):=by
 have w:∀n k,bZ (rn (n+40)) [] (k+1) 1 2 (.nm 2) (.cC (.ix (.slot 0) (.val (.int 0)))) none (.blt .len [(.call ne [(.slot 0),(.slot 2)])]) [.dat (W m ak)]=some ((cn m ak).map .int,[.dat (W m ak)]):=λn k=>by
  unfold cn;rw[List.map_map];have i0:HD (W m ak) (.int 0)=some (.int m):=rfl;have hr:cu 0 m=(List.range m).map λ(x:Nat)=>D.int (x:Int):=by unfold cu;exact sR λx _=>by rw[Int.zero_add]
  refine lG (rn:=rn (n+40)) (bor:=[]) (k:=k+1) (g:=[.dat (W m ak)]) (g1:=[.dat (W m ak)]) (kk:=2) (nn:=1) (j:=2) (List.range m) (λ(i:Nat)=>D.int (i:Int)) (λ(i:Nat)=>.int ((nb (i:Int) ak).length:Int)) (by simp! [U,fX,i0,aP m ⋯,hr]) rfl ⋯ ⋯ ⋯ (ao _ (by rw[BF];lia)) λi hi G' hG=>?_
  have h0:G'[0]?=some (.dat (W m ak)):=hG.1 0 ⋯;have ni:=λn k=>LC U (n:=n) (k:=k) m ak h (i:Int)
  have nl:(nb (i:Int) ak).length=(ak.filter (has i)).length:=by rw[SX,List.countP_eq_length_filter]
  rw[nl];simp! [U,h0,hG.2,hN,cZ (fx:=qI) rfl,ni]
 have hl:(cn m ak).length<64:=by rw[wY];lia
 unfold cY GQ S0;simp! [U,w,dF,ints_map,hl]
variable(hW:fns[w]?=some bx)(hWi:fns[wi]?=some (bO w))(hIT:fns[it]?=some (jv wi))(hRI:fns[ri]?=some wR)(Xj:fns[iw]?=some (jw wi it ri))
include hW hWi hIT hRI Xj
theorem uZ(hR:fns[ro]?=some oU)(hM:fns[mw]?=some (dc iw ci))(m:Nat)(hm:1<=m/\m<=6)(ak:List (List Int))(h:Wb m ak):cY (rn (n+80)) (k+7) (cP mw ro) [W m ak]=some (.dat (~~~(S0 m ak))):=by
 have y:=λn k=>wU (ci:=ci) U hW hWi hIT hRI Xj (n:=n) (k:=k) m ak hm h
 have rw_:=λn k=>Lz U (n:=n) (k:=k) m hm.2 ak h
 have st:∀s1 s2,Tg.set (.tp [1,2]) (W m ak) [.dat (W m ak),s1,s2]=some [.dat (W m ak),.dat (.int m),.dat (.tup (ak.map λx=>~~~x))]:=λ_ _=>rfl
 have w:∀n k,bZ (rn (n+20)) [] (k+1) 3 2 (.nm 4) (.call ro [(.slot 1),(.slot 2)]) none (.blt .len [(.slot 4)]) [.dat (W m ak),.dat (.int m),.dat (.tup (ak.map λx=>~~~x))]=some ((cn m ak).map .int,[.dat (W m ak),.dat (.int m),.dat (.tup (ak.map λx=>~~~x))]):=λn k=>by
  unfold cn;rw[List.map_map];refine lG (rn:=rn (n+20)) (bor:=[]) (k:=k+1) (g:=[.dat (W m ak),.dat (.int m),.dat (.tup (ak.map λx=>~~~x))]) (g1:=[.dat (W m ak),.dat (.int m),.dat (.tup (ak.map λx=>~~~x))]) (kk:=2) (nn:=3) (j:=4) (List.range m) (λ(i:Nat)=>D.lst ((nb (i:Int) ak).map .int)) (λ(i:Nat)=>.int ((nb (i:Int) ak).length:Int)) (by
   simp! [U,fX,hR,cZ (fx:=oU) rfl,rw_];rfl) rfl ⋯ ⋯ ⋯ (ao _ (by rw[BF];lia)) λi hi G' hG=>?_
  simp! [U,hG.2]
 have hl:(cn m ak).length<64:=by rw[wY];lia
 unfold cY cP S0;simp! [U,hM,bG (fx:=dc iw ci) rfl,y,Tg.ix,st,w,dF,ints_map,hl]
end
def cB(ti:Nat):List Sm:=[(.ite (.cmp .Lt (.call ti [(.slot 0),(.val (.int 4))]) (.slot 5)) [(.item 4 (.slot 6) (.bin .Add (.ix (.slot 4) (.slot 6)) (.val (.int 1)))),(.item 4 (.slot 7) (.bin .Add (.ix (.slot 4) (.slot 7)) (.val (.int 1))))] [])]
def cL(ti:Nat):List Sm:=[(.loop (.nm 7) (.fF (.bin .Add (.slot 6) (.val (.int 1))) (.slot 2)) (cB ti))]
def cA(ti:Nat):Sm:=.set 2 (.bin .Sub (.slot 1) (.ix (.lst [(.val (.int 0)),(.val (.int 0)),(.val (.int 1)),(.val (.int 2)),(.val (.int 0)),(.val (.int 3)),(.val (.int 1)),(.bin .Sub (.slot 1) (.val (.int 1)))]) (.call ti [(.slot 0),(.val (.int 8))])))
def cE(ti:Nat):List Sm:=[(.set 4 (.bin .Mult (.lst [(.val (.int 0))]) (.slot 2))),(.set 5 (.bin .Add (.val (.int 1)) (.call ti [(.slot 0),(.val (.int 3))]))),(.loop (.nm 6) (.cC (.slot 2)) (cL ti))]
def cT(ti:Nat):List Sm:=[(.setC 4 (.comp 10 2 (.nm 11) (.cC (.slot 2)) none (.call ti [(.slot 0),(.slot 2)])))]
def cI(ti:Nat):Sm:=.ite (.cmp .Eq (.slot 3) (.val (.int 3))) (cT ti) (cE ti)
noncomputable def cJ(ti:Nat):Sm:=.ite (.cmp .Eq (.slot 3) (.val (.int 1))) [(.item 4 (.call ti [(.slot 0),(.slot 2)]) (.call ti [(.slot 0),(.slot 2)]))] []
def cK(ti:Nat):Sm:=.ite (.cmp .Eq (.slot 3) (.val (.int 2))) [(.par 8 9 (.call ti [(.slot 0),(.slot 2)]) (.call ti [(.slot 0),(.slot 2)])),(.item 4 (.slot 8) (.blt .min [(.bin .Sub (.slot 2) (.val (.int 1))),(.bin .Add (.ix (.slot 4) (.slot 8)) (.val (.int 1)))])),(.item 4 (.slot 9) (.blt .max [(.val (.int 0)),(.bin .Sub (.ix (.slot 4) (.slot 9)) (.val (.int 1)))]))] []
def cN(ti:Nat):Fx:=⟨2,10,[(cA ti),(.set 2 (.blt .max [(.val (.int 1)),(.slot 2)])),(.set 3 (.call ti [(.slot 0),(.val (.int 4))])),(cI ti),(cJ ti),(cK ti),(.ret (.blt .tuple [(.eX (.slot 4))]))]⟩
theorem GR(N:Nat)(hN:N<=12):mj .Mult (.lst [.int 0]) (.int N)=some (.new ((List.replicate N (0:Int)).map .int)):=by
 match N,hN with
 | 0,_ | 1,_ | 2,_ | 3,_ | 4,_ | 5,_ | 6,_ | 7,_ | 8,_ | 9,_ | 10,_ | 11,_ | 12,_=>rfl
section
variable{k n:Nat}{g g1:G}{rn:Nat->Rn}{fns:List Fx}{ti:Nat}(U:iY fns rn)(hT:fns[ti]?=some aK)
include U hT
noncomputable def fC(s:Int)(fl:Bool)(a1 a2 a3 a4 a5 a6 a7 a8 a9:Slot):G:=[St s fl,a1,a2,a3,a4,a5,a6,a7,a8,a9]
theorem Xp(s:Int)(fl:Bool)(N:Nat)(hN:1<=N/\N<=12)(t:List Int)(ht:t.length=N)(i j:Nat)(hi:i<N)(hj:j<N)(r:Int)(a1 a3:Slot):∃(t':List Int) (s':Int),t'.length=N/\(rn (n+97)).b [0] (k+1) (cB ti) (fC s fl a1 (.dat (.int N)) a3 (.own (t.map .int)) (.dat (.int r)) (.dat (.int i)) (.dat (.int j)) .no .no)=some (.nx,fC s' fl a1 (.dat (.int N)) a3 (.own (t'.map .int)) (.dat (.int r)) (.dat (.int i)) (.dat (.int j)) .no .no):=by
 obtain⟨v,s1,v1,v2,q1⟩:=aR U (n:=n+74) (k:=k) (g:=fC s fl a1 (.dat (.int N)) a3 (.own (t.map .int)) (.dat (.int r)) (.dat (.int i)) (.dat (.int j)) .no .no) (i:=0) (s:=s) (fl:=fl) (m:=4) rfl ⋯;have jJ:aI (rn (n+94)) aK k [.var 0,.dat (.int 4)] [St s fl,a1,.dat (.int N),a3,.own (t.map .int),.dat (.int r),.dat (.int i),.dat (.int j),.no,.no]=some (.dat (.int v),[St s1 fl,a1,.dat (.int N),a3,.own (t.map .int),.dat (.int r),.dat (.int i),.dat (.int j),.no,.no]):=q1;by_cases c:v<r
 .
  have l1:L2.oZ t.length (i:Int)=some i:=ju ⋯;have l2:L2.oZ t.length (j:Int)=some j:=ju ⋯;have g1:=iz (t:=t) (i:=(i:Int)) ⋯;have g2:=iz (t:=t.set i (gt t i+1)) (i:=(j:Int)) (by rw[i4];lia)
  rw[AG]at g2;refine⟨(t.set i (gt t i+1)).set j (gt (t.set i (gt t i+1)) j+1),s1,by rw[i4,i4,ht],?_⟩
  rw[AG,AG];unfold cB fC;simp! [U,hT,jJ,c,g1,g2,l1,l2]
 . refine⟨t,s1,ht,?_⟩;unfold cB fC;simp! [U,hT,jJ,c]
theorem Tc(s:Int)(fl:Bool)(N:Nat)(hN:1<=N/\N<=12)(t:List Int)(ht:t.length=N)(i:Nat)(hi:i<N)(r:Int)(a1 a3 a7:Slot):∃(t':List Int) (s':Int) (b7:Slot),t'.length=N/\(rn (n+98)).b [0] (k+1) (cL ti) (fC s fl a1 (.dat (.int N)) a3 (.own (t.map .int)) (.dat (.int r)) (.dat (.int i)) a7 .no .no)=some (.nx,fC s' fl a1 (.dat (.int N)) a3 (.own (t'.map .int)) (.dat (.int r)) (.dat (.int i)) b7 .no .no):=by
 obtain⟨g',⟨_,t',s',b7,h1,rfl⟩,h3⟩:=cO (T:=.nm 7) (b:=(rn (n+97)).b [0] (k+1) (cB ti)) (λ(j:Nat)=>D.int ((i:Int)+1+(j:Int)))
  (I:=λl g=>(∀x∈l,i+1+x<N)/\∃(t':List Int) (s':Int) (b7:Slot),t'.length=N/\g=fC s' fl a1 (.dat (.int N)) a3 (.own (t'.map .int)) (.dat (.int r)) (.dat (.int i)) b7 .no .no)
  (step:=λa l g h=>by
   obtain⟨h0,t',s',b7,h1,rfl⟩:=h;have ha:=h0 a dA;obtain⟨t2,s2,h4,h5⟩:=Xp U hT (n:=n) (k:=k) s' fl N hN t' h1 i (i+1+a) hi ha r a1 a3;have e:((i+1+a:Nat):Int)=(i:Int)+1+(a:Int):=by lia
   rw[e]at h5;exact⟨_,_,rfl,h5,λx hx=>h0 x (b0 _ hx),t2,s2,_,h4,rfl⟩) (List.range (N - (i+1))) (fC s fl a1 (.dat (.int N)) a3 (.own (t.map .int)) (.dat (.int r)) (.dat (.int i)) a7 .no .no) ⟨λx hx=>by rw[tP]at hx;lia,t,s,a7,ht,rfl⟩
 refine⟨t',s',b7,h1,?_⟩;have e:((N:Int) - ((i:Int)+1)).toNat=N - (i+1):=by lia
 generalize hb:(rn (n+97)).b [0] (k+1) (cB ti)=bb at h3;unfold fC at h3 ⊢
 unfold cL;simp! [U,Tg.ix,Tg.kJ,fX,aP ((i:Int)+1) ⋯,aP N ⋯,e,cu,hb,h3]
theorem Xq(s:Int)(fl:Bool)(N:Nat)(hN:1<=N/\N<=12)(t:List Int)(ht:t.length=N)(r:Int)(a1 a3:Slot):∃(t':List Int) (s':Int) (b6 b7:Slot),t'.length=N/\aE (rn (n+98)) [0] (k+1) (.loop (.nm 6) (.cC (.slot 2)) (cL ti)) (fC s fl a1 (.dat (.int N)) a3 (.own (t.map .int)) (.dat (.int r)) .no .no .no .no)=some (.nx,fC s' fl a1 (.dat (.int N)) a3 (.own (t'.map .int)) (.dat (.int r)) b6 b7 .no .no):=by
 obtain⟨g',⟨_,t',s',b6,b7,h1,rfl⟩,h3⟩:=cO (T:=.nm 6) (b:=(rn (n+98)).b [0] (k+1) (cL ti)) (λ(j:Nat)=>D.int (j:Int))
  (I:=λl g=>(∀x∈l,x<N)/\∃(t':List Int) (s':Int) (b6 b7:Slot),t'.length=N/\g=fC s' fl a1 (.dat (.int N)) a3 (.own (t'.map .int)) (.dat (.int r)) b6 b7 .no .no)
  (step:=λa l g h=>by
   obtain⟨h0,t',s',b6,b7,h1,rfl⟩:=h;have ha:=h0 a dA;obtain⟨t2,s2,c7,h4,h5⟩:=Tc U hT (n:=n) (k:=k) s' fl N hN t' h1 a ha r a1 a3 b7;exact⟨_,_,rfl,h5,λx hx=>h0 x (b0 _ hx),t2,s2,_,_,h4,rfl⟩) (List.range N) (fC s fl a1 (.dat (.int N)) a3 (.own (t.map .int)) (.dat (.int r)) .no .no .no .no) ⟨λx hx=>by rw[tP]at hx;lia,t,s,.no,.no,ht,rfl⟩
 refine⟨t',s',b6,b7,h1,?_⟩;have hr:cu 0 N=(List.range N).map λ(x:Nat)=>D.int (x:Int):=by unfold cu;exact sR λx _=>by rw[Int.zero_add]
 generalize hb:(rn (n+98)).b [0] (k+1) (cL ti)=bb at h3;unfold fC at h3 ⊢
 simp! [U,Tg.ix,Tg.kJ,fX,aP N ⋯,hr,hb,h3]
end
section
variable{k n:Nat}{g g1:G}{rn:Nat->Rn}{fns:List Fx}{ti:Nat}(U:iY fns rn)(hT:fns[ti]?=some aK)
include U hT
theorem cE1(s:Int)(fl:Bool)(v:Int)(a1 a3:Slot)(z:List D)(om:mj .Mult (.lst [.int 0]) (.int v)=some (.new z)):aE (rn (n+98)) [0] (k+1) (.set 4 (.bin .Mult (.lst [(.val (.int 0))]) (.slot 2))) (fC s fl a1 (.dat (.int v)) a3 .no .no .no .no .no .no)=some (.nx,fC s fl a1 (.dat (.int v)) a3 (.own z) .no .no .no .no .no):=by unfold fC;simp! [U,ao 1 ⋯,om]
theorem cE2(s:Int)(fl:Bool)(N:Nat)(a1 a3:Slot)(z:List D):∃(r s1:Int),aE (rn (n+98)) [0] (k+1) (.set 5 (.bin .Add (.val (.int 1)) (.call ti [(.slot 0),(.val (.int 3))]))) (fC s fl a1 (.dat (.int N)) a3 (.own z) .no .no .no .no .no)=some (.nx,fC s1 fl a1 (.dat (.int N)) a3 (.own z) (.dat (.int (1+r))) .no .no .no .no):=by obtain⟨r,s1,r1,r2,q1⟩:=aR U (n:=n+76) (k:=k) (g:=fC s fl a1 (.dat (.int N)) a3 (.own z) .no .no .no .no .no) (i:=0) (s:=s) (fl:=fl) (m:=3) rfl ⋯;have jJ:aI (rn (n+96)) aK k [.var 0,.dat (.int 3)] [St s fl,a1,.dat (.int N),a3,.own z,.no,.no,.no,.no,.no]=some (.dat (.int r),[St s1 fl,a1,.dat (.int N),a3,.own z,.no,.no,.no,.no,.no]):=q1;refine⟨r,s1,?_⟩;unfold fC;simp! [U,hT,jJ]
theorem Xr(s:Int)(fl:Bool)(N:Nat)(hN:1<=N/\N<=12)(a1 a3:Slot):∃(t':List Int) (s':Int) (b5 b6 b7:Slot),t'.length=N/\(rn (n+99)).b [0] (k+1) (cE ti) (fC s fl a1 (.dat (.int N)) a3 .no .no .no .no .no .no)=some (.nx,fC s' fl a1 (.dat (.int N)) a3 (.own (t'.map .int)) b5 b6 b7 .no .no):=by obtain⟨z,hz,om⟩:∃z:List Int,z.length=N/\mj .Mult (.lst [.int 0]) (.int N)=some (.new (z.map .int)):=⟨_,fI,GR N hN.2⟩;have e1:=cE1 U hT (n:=n) (k:=k) s fl (N:Int) a1 a3 _ om;obtain⟨r,s1,e2⟩:=cE2 U hT (n:=n) (k:=k) s fl N a1 a3 (z.map .int);obtain⟨t',s',b6,b7,h1,e3⟩:=Xq U hT (n:=n) (k:=k) s1 fl N hN z hz (1+r) a1 a3;refine⟨t',s',.dat (.int (1+r)),b6,b7,h1,?_⟩;unfold cE;rw[U.b,aC e1,aC e2,aC e3];simp only[bN]
end
section
variable{rn:Rn}{bor:List Nat}{k:Nat}
theorem Av{g m:G}{acc:List D}{i:Nat}{s:Slot}(h:i<g.length):(gM g m acc).set i s=gM (g.set i s) m acc:=by unfold gM;rw[AM _ _ h]
theorem u0{i j last kk:Nat}{fl:Bool}{e:Ex}{P:D->Prop}(g:G)(hi:i<g.length)(gY:last=g.length+kk)(hj1:g.length<=j)(hj2:j<g.length+kk)
  (he:∀s G',G'[i]?=some (St s fl)->(∀i',i'≠i->i'<g.length->G'[i']?=g[i']?)->∃d s',P d/\gP rn bor k e G'=some (d,G'.set i (St s' fl))) :
  ∀(items:List D) (s:Int) (m:G) (acc:List D),m.length=kk->acc.length+items.length<=lim->∃ds s' m',m'.length=kk/\ds.length=items.length/\(∀d∈ds,P d)/\Ad rn bor k (.nm j) last none e items (gM (g.set i (St s fl)) m acc)=some (gM (g.set i (St s' fl)) m' (acc++ds))
 | [],s,m,acc,hm,_=>⟨[],s,m,hm,rfl,(λ_ h=>nomatch h),by rw[l4];rfl⟩
 |x::items,s,m,acc,hm,hl=>by
  rw[kS]at hl;have hg:(g.set i (St s fl)).length=g.length:=i4;have q1:Tg.set (.nm j) x (gM (g.set i (St s fl)) m acc)=some (gM (g.set i (St s fl)) (m.set (j - g.length) (.dat x)) acc):=by
   show some ((gM (g.set i (St s fl)) m acc).set j (.dat x))=_;have:=fZ (g:=g.set i (St s fl)) (m:=m) (acc:=acc) (i:=j - g.length) (s:=.dat x) ⋯;rw[hg,show g.length+(j - g.length)=j by lia]at this
   rw[this]
  obtain⟨d,s1,hd,q2⟩:=he s (gM (g.set i (St s fl)) (m.set (j - g.length) (.dat x)) acc) (by rw[iL ⋯,eQ hi]) λi' h1 h2=>by rw[iL ⋯,eC (nN h1)]
  rw[Av ⋯,List.set_set]at q2;have hm':(m.set (j - g.length) (Slot.dat x)).length=kk:=by rw[i4];exact hm
  obtain⟨ds,s',m',w1,w2,w3,w4⟩:=u0 g hi gY hj1 hj2 he items s1 (m.set (j - g.length) (.dat x)) (acc++[d]) hm' (by rw[gL,AD];lia)
  refine⟨d::ds,s',m',w1,by rw[kS,kS,w2],λy hy=>(d0.mp hy).elim (λe=>e▸hd) (w3 y),?_⟩
  have vn:(g.set i (St s1 fl)).length=g.length:=i4;have q4:(gM (g.set i (St s1 fl)) (m.set (j - g.length) (.dat x)) acc)[last]?=some (.own acc):=by rw[gY,<- hm',<- vn];exact iM
  have q5:(gM (g.set i (St s1 fl)) (m.set (j - g.length) (.dat x)) acc).set last (.own (acc++[d]))=gM (g.set i (St s1 fl)) (m.set (j - g.length) (.dat x)) (acc++[d]):=by rw[gY,<- hm',<- vn];exact ig
  unfold Ad;rw[q1];dsimp only[Bp];rw[q2];dsimp only;rw[q4];dsimp only;rw[fN ⋯,q5,w4,AH];rfl
theorem qJ{i j nn kk:Nat}{fl:Bool}{it e:Ex}{P:D->Prop}(g:G)(s:Int)(hg:g[i]?=some (St s fl))(items:List D)(hw:fX rn bor k false it g=some (items,g))(hn:nn=g.length)(hj1:g.length<=j)(hj2:j<g.length+kk)(hb:j∉bor)(hl:items.length<=lim)
  (he:∀s G',G'[i]?=some (St s fl)->(∀i',i'≠i->i'<g.length->G'[i']?=g[i']?)->∃d s',P d/\gP rn bor k e G'=some (d,G'.set i (St s' fl))) :
  ∃ds s',ds.length=items.length/\(∀d∈ds,P d)/\bZ rn bor k nn kk (.nm j) it none e g=some (ds,g.set i (St s' fl)):=by
 subst hn;have hi:i<g.length:=(dE.mp hg).1;obtain⟨ds,s',m',w1,w2,w3,w4⟩:=u0 g hi rfl hj1 hj2 he items s (List.replicate kk .no) [] ⋯ (by simpa using hl)
 have e0:g.set i (St s fl)=g:=by
  apply List.ext_getElem?;intro a;by_cases h:a=i
  . subst h;rw[eQ hi,hg]
  . rw[eC (nN h)]
 rw[e0]at w4;refine⟨ds,s',w2,w3,?_⟩;have vn:(g.set i (St s' fl)).length=g.length:=i4;have q4:(gM (g.set i (St s' fl)) m' ([]++ds))[g.length+kk]?=some (.own ds):=by have:=iM (g:=g.set i (St s' fl)) (m:=m') (acc:=[]++ds);rw[vn,w1]at this;exact this
 have q5:(gM (g.set i (St s' fl)) m' ([]++ds)).take g.length=g.set i (St s' fl):=by rw[<- vn];exact sr
 unfold bZ;rw[show Tg.kJ (.nm j)=false from rfl,hw]
 dsimp only;rw[fN ⟨rfl,by simpa [Tg.ix]using hb⟩,Gd,w4]
 dsimp only;rw[q4];dsimp only;rw[q5]
end
section
variable{k n:Nat}{g g1:G}{rn:Nat->Rn}{fns:List Fx}{ti:Nat}(U:iY fns rn)(hT:fns[ti]?=some aK)
include U hT
theorem Xs(s:Int)(fl:Bool)(N:Nat)(hN:1<=N/\N<=12)(a1 a3:Slot):∃(t':List Int) (s':Int),t'.length=N/\(rn (n+99)).b [0] (k+1) (cT ti) (fC s fl a1 (.dat (.int N)) a3 .no .no .no .no .no .no)=some (.nx,fC s' fl a1 (.dat (.int N)) a3 (.own (t'.map .int)) .no .no .no .no .no):=by
 obtain⟨ds,s',h1,h2,h3⟩:=qJ (rn:=rn (n+98)) (bor:=[0]) (k:=k+1) (i:=0) (j:=11) (nn:=10) (kk:=2) (fl:=fl) (it:=.cC (.slot 2)) (e:=.call ti [(.slot 0),(.slot 2)]) (P:=λd=>∃x:Int,d=.int x) (fC s fl a1 (.dat (.int N)) a3 .no .no .no .no .no .no) s rfl (cu 0 N) (by unfold fC;simp! [U,fX,aP N ⋯]) rfl (show 10<=11 by decide) (show 11<10+2 by decide) ⋯ (ao _ (by unfold cu;simp;lia))
  (λs G' h0 hG=>by
   have h2:G'[2]?=some (.dat (.int N)):=hG 2 ⋯ (show 2<10 by decide)
   obtain⟨v,s1,v1,v2,q1⟩:=aR U (n:=n+77) (k:=k) (g:=G') (i:=0) (s:=s) (fl:=fl) (m:=(N:Int)) h0 ⋯;have jJ:aI (rn (n+97)) aK k [.var 0,.dat (.int N)] G'=some (.dat (.int v),G'.set 0 (St s1 fl)):=q1;refine⟨.int v,s1,⟨v,rfl⟩,?_⟩;simp! [U,hT,h0,h2,jJ])
 have hds:∀ds:List D,(∀d∈ds,∃x:Int,d=.int x)->∃t:List Int,ds=t.map .int:=λds=>by
  induction ds with
  |nil=>exact λ_=>⟨[],rfl⟩
  |cons d l ih=>
   intro h;obtain⟨x,rfl⟩:=h d dA;obtain⟨t,rfl⟩:=ih λd hd=>h d (b0 _ hd)
   exact⟨x::t,rfl⟩
 obtain⟨t,rfl⟩:=hds ds h2;refine⟨t,s',by rw[eR]at h1;rw[h1];unfold cu;simp,?_⟩
 have h3':bZ (rn (n+98)) [0] (k+1) 10 2 (.nm 11) (.cC (.slot 2)) none (.call ti [(.slot 0),(.slot 2)]) (fC s fl a1 (.dat (.int N)) a3 .no .no .no .no .no .no)=some (t.map .int,fC s' fl a1 (.dat (.int N)) a3 .no .no .no .no .no .no):=h3;have e1:aE (rn (n+98)) [0] (k+1) (.setC 4 (.comp 10 2 (.nm 11) (.cC (.slot 2)) none (.call ti [(.slot 0),(.slot 2)]))) (fC s fl a1 (.dat (.int N)) a3 .no .no .no .no .no .no)=some (.nx,fC s' fl a1 (.dat (.int N)) a3 (.own (t.map .int)) .no .no .no .no .no):=by simp only[aE,h3'];simp[fC]
 unfold cT;rw[U.b,aC e1];simp only[bN]
theorem cMid(s:Int)(fl:Bool)(N:Nat)(hN:1<=N/\N<=12)(w:Int)(a1:Slot):∃(t':List Int) (s':Int) (b5 b6 b7:Slot),t'.length=N/\aE (rn (n+99)) [0] (k+1) (cI ti) (fC s fl a1 (.dat (.int N)) (.dat (.int w)) .no .no .no .no .no .no)=some (.nx,fC s' fl a1 (.dat (.int N)) (.dat (.int w)) (.own (t'.map .int)) b5 b6 b7 .no .no):=by
 by_cases c:w=3
 .
  obtain⟨t,s',h1,h2⟩:=Xs U hT (n:=n) (k:=k) s fl N hN a1 (.dat (.int w));refine⟨t,s',.no,.no,.no,h1,?_⟩;unfold cI;generalize cT ti=bb at h2 ⊢
  generalize cE ti=cc;rw[U.b]at h2;unfold fC at h2 ⊢
  subst c;simp! [U,h2]
 .
  obtain⟨t,s',b5,b6,b7,h1,h2⟩:=Xr U hT (n:=n) (k:=k) s fl N hN a1 (.dat (.int w));refine⟨t,s',b5,b6,b7,h1,?_⟩;unfold cI;generalize cT ti=bb;generalize cE ti=cc at h2 ⊢
  rw[U.b]at h2;unfold fC at h2 ⊢
  simp! [U,c,h2]
theorem cJay(s:Int)(fl:Bool)(N:Nat)(hN:1<=N/\N<=12)(t:List Int)(ht:t.length=N)(w:Int)(a1 a5 a6 a7:Slot):∃(t':List Int) (s':Int),t'.length=N/\aE (rn (n+99)) [0] (k+1) (cJ ti) (fC s fl a1 (.dat (.int N)) (.dat (.int w)) (.own (t.map .int)) a5 a6 a7 .no .no)=some (.nx,fC s' fl a1 (.dat (.int N)) (.dat (.int w)) (.own (t'.map .int)) a5 a6 a7 .no .no):=by
 by_cases c:w=1
 .
  subst c;obtain⟨p,s1,p1,p2,q1⟩:=aR U (n:=n+77) (k:=k) (g:=fC s fl a1 (.dat (.int N)) (.dat (.int 1)) (.own (t.map .int)) a5 a6 a7 .no .no) (i:=0) (s:=s) (fl:=fl) (m:=(N:Int)) rfl ⋯;have jJ:aI (rn (n+97)) aK k [.var 0,.dat (.int N)] [St s fl,a1,.dat (.int N),.dat (.int 1),.own (t.map .int),a5,a6,a7,.no,.no]=some (.dat (.int p),[St s1 fl,a1,.dat (.int N),.dat (.int 1),.own (t.map .int),a5,a6,a7,.no,.no]):=q1;obtain⟨q,s2,p3,p4,q2⟩:=aR U (n:=n+77) (k:=k) (g:=fC s1 fl a1 (.dat (.int N)) (.dat (.int 1)) (.own (t.map .int)) a5 a6 a7 .no .no) (i:=0) (s:=s1) (fl:=fl) (m:=(N:Int)) rfl ⋯;have rF:aI (rn (n+97)) aK k [.var 0,.dat (.int N)] [St s1 fl,a1,.dat (.int N),.dat (.int 1),.own (t.map .int),a5,a6,a7,.no,.no]=some (.dat (.int q),[St s2 fl,a1,.dat (.int N),.dat (.int 1),.own (t.map .int),a5,a6,a7,.no,.no]):=q2;obtain⟨pn,rfl⟩:∃pn:Nat,p=pn:=⟨p.toNat,by lia⟩
  obtain⟨qn,rfl⟩:∃qn:Nat,q=qn:=⟨q.toNat,by lia⟩
  have l1:L2.oZ t.length (pn:Int)=some pn:=ju ⋯;have l2:L2.oZ t.length (qn:Int)=some qn:=ju ⋯
  first
  |refine⟨t.set qn pn,s2,by rw[i4,ht],?_⟩
   rw[AG];unfold cJ fC;simp! [U,hT,jJ,rF,l1,l2]
   done
  |refine⟨t.set pn qn,s2,by rw[i4,ht],?_⟩
   rw[AG];unfold cJ fC;simp! [U,hT,jJ,rF,l1,l2]
 . refine⟨t,s,ht,?_⟩;unfold cJ fC;simp! [U,c]
theorem cKay(s:Int)(fl:Bool)(N:Nat)(hN:1<=N/\N<=12)(t:List Int)(ht:t.length=N)(w:Int)(a1 a5 a6 a7:Slot):∃(t':List Int) (s':Int) (b8 b9:Slot),t'.length=N/\aE (rn (n+99)) [0] (k+1) (cK ti) (fC s fl a1 (.dat (.int N)) (.dat (.int w)) (.own (t.map .int)) a5 a6 a7 .no .no)=some (.nx,fC s' fl a1 (.dat (.int N)) (.dat (.int w)) (.own (t'.map .int)) a5 a6 a7 b8 b9):=by
 by_cases c:w=2
 .
  subst c;obtain⟨p,s1,p1,p2,q1⟩:=aR U (n:=n+77) (k:=k) (g:=fC s fl a1 (.dat (.int N)) (.dat (.int 2)) (.own (t.map .int)) a5 a6 a7 .no .no) (i:=0) (s:=s) (fl:=fl) (m:=(N:Int)) rfl ⋯;have jJ:aI (rn (n+97)) aK k [.var 0,.dat (.int N)] [St s fl,a1,.dat (.int N),.dat (.int 2),.own (t.map .int),a5,a6,a7,.no,.no]=some (.dat (.int p),[St s1 fl,a1,.dat (.int N),.dat (.int 2),.own (t.map .int),a5,a6,a7,.no,.no]):=q1;obtain⟨q,s2,p3,p4,q2⟩:=aR U (n:=n+77) (k:=k) (g:=fC s1 fl a1 (.dat (.int N)) (.dat (.int 2)) (.own (t.map .int)) a5 a6 a7 .no .no) (i:=0) (s:=s1) (fl:=fl) (m:=(N:Int)) rfl ⋯;have rF:aI (rn (n+97)) aK k [.var 0,.dat (.int N)] [St s1 fl,a1,.dat (.int N),.dat (.int 2),.own (t.map .int),a5,a6,a7,.no,.no]=some (.dat (.int q),[St s2 fl,a1,.dat (.int N),.dat (.int 2),.own (t.map .int),a5,a6,a7,.no,.no]):=q2;obtain⟨pn,rfl⟩:∃pn:Nat,p=pn:=⟨p.toNat,by lia⟩
  obtain⟨qn,rfl⟩:∃qn:Nat,q=qn:=⟨q.toNat,by lia⟩
  have l1:L2.oZ t.length (pn:Int)=some pn:=ju ⋯;have l2:L2.oZ t.length (qn:Int)=some qn:=ju ⋯;have g1:=iz (t:=t) (i:=(pn:Int)) ⋯;obtain⟨v,hv⟩:∃v:Int,lD .min [.int ((N:Int) - 1),.int (gt t pn+1)]=some (.dat (.int v)):=⟨_,yK _ _⟩;have g2:=iz (t:=t.set pn v) (i:=(qn:Int)) (by rw[i4];lia)
  rw[AG]at g2;obtain⟨x,hx⟩:∃x:Int,lD .max [.int 0,.int (gt (t.set pn v) qn - 1)]=some (.dat (.int x)):=⟨_,sy _ _⟩;refine⟨(t.set pn v).set qn x,s2,.dat (.int pn),.dat (.int qn),by rw[i4,i4,ht],?_⟩
  rw[AG,AG];unfold cK fC;simp! [U,hT,jJ,rF,l1,l2,g1,hv,g2,hx]
 . refine⟨t,s,.no,.no,ht,?_⟩;unfold cK fC;simp! [U,c]
end
def fK(ti:Nat):Fx:=⟨1,2,[(.set 1 (.lst [(.val .non),(.val (.int 0)),(.tup []),(.tup [(.val (.int 0)),(.tup [])]),(.tup [(.val (.int 7)),(.tup [])]),(.tup [(.val (.bl true)),(.tup [])]),(.tup [(.val (.int 2)),(.lst [])]),(.lst [(.val (.int 2)),(.tup [])]),(.tup [(.val (.int 2)),(.tup [(.tup [(.val (.int 1)),(.val (.int 0))])])]),(.tup [(.val (.int 2)),(.tup [(.tup [(.val (.int 0)),(.val (.int 0))])])])])),(.set 1 (.bin .Add (.slot 1) (.lst [(.tup [(.val (.int 3)),(.tup [(.tup [(.val (.int 0)),(.val (.int 2))]),(.tup [(.val (.int 0)),(.val (.int 1))])])]),(.tup [(.val (.int 2)),(.tup [(.tup [(.val (.int 0)),(.val (.int 1))]),(.tup [(.val (.int 0)),(.val (.int 1))])])]),(.tup [(.val (.int 2)),(.tup [(.tup [(.val (.int 0)),(.val (.int 1)),(.val (.int 1))])])]),(.tup [(.val (.int 2)),(.tup [(.tup [(.val (.int 0)),(.val (.bl true))])])]),(.tup [(.val (.int 2))])]))),(.set 1 (.bin .Add (.slot 1) (.lst [(.tup [(.val (.int 2)),(.tup [(.tup [(.val (.int 0)),(.val (.int 2))])])]),(.val (.str (PySem.Str.ofString "2:"))),.emp,(.tup [(.val (.int 2)),(.tup [(.lst [(.val (.int 0)),(.val (.int 1))])])]),(.tup [(.val (.int 2)),(.tup []),(.tup [])]),(.tup [(.val (.int 2)),(.val .non)]),(.tup [(.val (.str (PySem.Str.ofString "2"))),(.tup [])])]))),(.ret (.ix (.slot 1) (.call ti [(.slot 0),(.val (.int 22))])))]⟩
noncomputable def Td:List D:=[.non,(.int 0),(.tup []),(.tup [(.int 0),(.tup [])]),(.tup [(.int 7),(.tup [])]),(.tup [(.bl true),(.tup [])]),(.tup [(.int 2),(.lst [])]),(.lst [(.int 2),(.tup [])]),(.tup [(.int 2),(.tup [(.tup [(.int 1),(.int 0)])])]),(.tup [(.int 2),(.tup [(.tup [(.int 0),(.int 0)])])])]
noncomputable def Te:List D:=[(.tup [(.int 3),(.tup [(.tup [(.int 0),(.int 2)]),(.tup [(.int 0),(.int 1)])])]),(.tup [(.int 2),(.tup [(.tup [(.int 0),(.int 1)]),(.tup [(.int 0),(.int 1)])])]),(.tup [(.int 2),(.tup [(.tup [(.int 0),(.int 1),(.int 1)])])]),(.tup [(.int 2),(.tup [(.tup [(.int 0),(.bl true)])])]),(.tup [(.int 2)])]
noncomputable def YL:List D:=[(.tup [(.int 2),(.tup [(.tup [(.int 0),(.int 2)])])]),(.str (PySem.Str.ofString "2:")),.emp,(.tup [(.int 2),(.tup [(.lst [(.int 0),(.int 1)])])]),(.tup [(.int 2),(.tup []),(.tup [])]),(.tup [(.int 2),.non]),(.tup [(.str (PySem.Str.ofString "2")),(.tup [])])]
def gD:List D:=Td++Te++YL
section
variable{k n:Nat}{g g1:G}{rn:Nat->Rn}{fns:List Fx}{ti:Nat}(U:iY fns rn)(hT:fns[ti]?=some aK)
include U hT
theorem sG{i:Nat}{s:Int}{fl:Bool}(mo:Int)(hmo:4<=mo/\mo<=12)(hi:g[i]?=some (St s fl)):∃(t:List Int) (s':Int),(1<=t.length/\t.length<=12)/\aI (rn (n+100)) (cN ti) (k+1) [.var i,.dat (.int mo)] g=some (.dat (~~~t),g.set i (St s' fl)):=by
 obtain⟨r,s1,r1,r2,q1⟩:=aR U (n:=n+76) (k:=k) (g:=fC s fl (.dat (.int mo)) .no .no .no .no .no .no .no .no) (i:=0) (s:=s) (fl:=fl) (m:=8) rfl ⋯;have jJ:aI (rn (n+96)) aK k [.var 0,.dat (.int 8)] [St s fl,.dat (.int mo),.no,.no,.no,.no,.no,.no,.no,.no]=some (.dat (.int r),[St s1 fl,.dat (.int mo),.no,.no,.no,.no,.no,.no,.no,.no]):=q1;obtain⟨x,hx,ex⟩:=mG (l:=[D.int 0,.int 0,.int 1,.int 2,.int 0,.int 3,.int 1,.int (mo - 1)]) (r:=r) ⟨r1,r2⟩;obtain⟨v,hv,rfl⟩:∃v:Int,(0<=v/\v<=mo - 1)/\x=.int v:=by simp only[d0,mE,AI]at hx;rcases hx with rfl |rfl |rfl |rfl |rfl |rfl |rfl |rfl <;> exact⟨_,by lia,rfl⟩
 obtain⟨N,hN,h1⟩:∃N:Nat,mo - v=(N:Int)/\(1<=N/\N<=12):=⟨(mo - v).toNat,by lia,by lia⟩
 have e1:aE (rn (n+99)) [0] (k+1) (cA ti) (fC s fl (.dat (.int mo)) .no .no .no .no .no .no .no .no)=some (.nx,fC s1 fl (.dat (.int mo)) (.dat (.int N)) .no .no .no .no .no .no .no):=by unfold cA fC;simp! [U,hT,jJ,ex,ao 8 ⋯,hN]
 have bm:lD .max [.int 1,.int N]=some (.dat (.int N)):=by
  rw[sy]
  congr 3
  split <;> lia
 have e2:aE (rn (n+99)) [0] (k+1) (.set 2 (.blt .max [(.val (.int 1)),(.slot 2)])) (fC s1 fl (.dat (.int mo)) (.dat (.int N)) .no .no .no .no .no .no .no)=some (.nx,fC s1 fl (.dat (.int mo)) (.dat (.int N)) .no .no .no .no .no .no .no):=by unfold fC;simp! [U,bm]
 obtain⟨w,s2,w1,w2,q2⟩:=aR U (n:=n+78) (k:=k) (g:=fC s1 fl (.dat (.int mo)) (.dat (.int N)) .no .no .no .no .no .no .no) (i:=0) (s:=s1) (fl:=fl) (m:=4) rfl ⋯;have rF:aI (rn (n+98)) aK k [.var 0,.dat (.int 4)] [St s1 fl,.dat (.int mo),.dat (.int N),.no,.no,.no,.no,.no,.no,.no]=some (.dat (.int w),[St s2 fl,.dat (.int mo),.dat (.int N),.no,.no,.no,.no,.no,.no,.no]):=q2;have e3:aE (rn (n+99)) [0] (k+1) (.set 3 (.call ti [(.slot 0),(.val (.int 4))])) (fC s1 fl (.dat (.int mo)) (.dat (.int N)) .no .no .no .no .no .no .no)=some (.nx,fC s2 fl (.dat (.int mo)) (.dat (.int N)) (.dat (.int w)) .no .no .no .no .no .no):=by unfold fC;simp! [U,hT,rF]
 obtain⟨t1,s3,b5,b6,b7,l1,e4⟩:=cMid U hT (n:=n) (k:=k) s2 fl N h1 w (.dat (.int mo));obtain⟨t2,s4,l2,e5⟩:=cJay U hT (n:=n) (k:=k) s3 fl N h1 t1 l1 w (.dat (.int mo)) b5 b6 b7;obtain⟨t3,s5,b8,b9,l3,e6⟩:=cKay U hT (n:=n) (k:=k) s4 fl N h1 t2 l2 w (.dat (.int mo)) b5 b6 b7;have hl:t3.length<64:=by lia
 have e7:aE (rn (n+99)) [0] (k+1) (.ret (.blt .tuple [(.eX (.slot 4))])) (fC s5 fl (.dat (.int mo)) (.dat (.int N)) (.dat (.int w)) (.own (t3.map .int)) b5 b6 b7 b8 b9)=some (.rt (.dat (~~~(bw t3).reverse)),fC s5 fl (.dat (.int mo)) (.dat (.int N)) (.dat (.int w)) (.own (t3.map .int)) b5 b6 b7 b8 b9):=by unfold fC;simp! [U,dF,ints_map,hl]
 refine⟨(bw t3).reverse,s5,?_,?_⟩
 . rw[sT,(bJ t3).length_eq,l3];exact h1
 .
  have hp:dh (cN ti).n [St s fl,.dat (.int mo)]=fC s fl (.dat (.int mo)) .no .no .no .no .no .no .no .no:=rfl;have body:(rn (n+100)).b [0] (k+1) (cN ti).body (fC s fl (.dat (.int mo)) .no .no .no .no .no .no .no .no)=some (.rt (.dat (~~~(bw t3).reverse)),fC s5 fl (.dat (.int mo)) (.dat (.int N)) (.dat (.int w)) (.own (t3.map .int)) b5 b6 b7 b8 b9):=by unfold cN;rw[U.b,aC e1,aC e2,aC e3,aC e4,aC e5,aC e6];unfold bN;rw[e7]
  unfold aI;simp only[vars,bY,hi,List.map_cons,List.map_nil];rw[fN ⟨rfl,by simp⟩,hp,body]
  rfl
theorem LK{i:Nat}{s:Int}{fl:Bool}(hi:g[i]?=some (St s fl)):∃(d:D) (s':Int),d∈gD/\aI (rn (n+60)) (fK ti) (k+1) [.var i] g=some (.dat d,g.set i (St s' fl)):=by
 have l0:=ao 0 ⋯;have l1:=ao 1 ⋯;have l2:=ao 2 ⋯;have l3:=ao 3 ⋯;have e1:aE (rn (n+59)) [0] (k+1) (match (fK ti).body with |s::_=>s | []=>.stuck) [St s fl,.no]=some (.nx,[St s fl,.own Td]):=by unfold fK;simp! [U,l0,l1,l2,l3,ao 10 ⋯];rfl
 have e2:aE (rn (n+59)) [0] (k+1) (match (fK ti).body with |_::s::_=>s |_=>.stuck) [St s fl,.own Td]=some (.nx,[St s fl,.own (Td++Te)]):=by have o:=mH Td Te ⋯;have hb:Te=[(.tup [(.int 3),(.tup [(.tup [(.int 0),(.int 2)]),(.tup [(.int 0),(.int 1)])])]),(.tup [(.int 2),(.tup [(.tup [(.int 0),(.int 1)]),(.tup [(.int 0),(.int 1)])])]),(.tup [(.int 2),(.tup [(.tup [(.int 0),(.int 1),(.int 1)])])]),(.tup [(.int 2),(.tup [(.tup [(.int 0),(.bl true)])])]),(.tup [(.int 2)])]:=rfl;unfold fK;simp! [U,l0,l1,l2,l3,ao Te.length ⋯,<- hb,o]
 have e3:aE (rn (n+59)) [0] (k+1) (match (fK ti).body with |_::_::s::_=>s |_=>.stuck) [St s fl,.own (Td++Te)]=some (.nx,[St s fl,.own gD]):=by have o:=mH (Td++Te) YL ⋯;have hb:YL=[(.tup [(.int 2),(.tup [(.tup [(.int 0),(.int 2)])])]),(.str (PySem.Str.ofString "2:")),.emp,(.tup [(.int 2),(.tup [(.lst [(.int 0),(.int 1)])])]),(.tup [(.int 2),(.tup []),(.tup [])]),(.tup [(.int 2),.non]),(.tup [(.str (PySem.Str.ofString "2")),(.tup [])])]:=rfl;unfold fK gD;simp! [U,l0,l1,l2,l3,ao YL.length ⋯,<- hb,o]
 obtain⟨r,s1,r1,r2,q⟩:=aR U (n:=n+37) (k:=k) (g:=[St s fl,.own gD]) (i:=0) (s:=s) (fl:=fl) (m:=22) rfl ⋯;have q':aI (rn (n+57)) aK k [.var 0,.dat (.int 22)] [St s fl,.own gD]=some (.dat (.int r),[St s1 fl,.own gD]):=q;obtain⟨d,hd,ed⟩:=mG (l:=gD) (r:=r) ⟨r1,r2⟩;refine⟨d,s1,hd,?_⟩;have e4:aE (rn (n+59)) [0] (k+1) (.ret (.ix (.slot 1) (.call ti [(.slot 0),(.val (.int 22))]))) [St s fl,.own gD]=some (.rt (.dat d),[St s1 fl,.own gD]):=by simp! [U,hT,q',ed]
 have body:(rn (n+60)).b [0] (k+1) (fK ti).body [St s fl,.no]=some (.rt (.dat d),[St s1 fl,.own gD]):=by
  unfold fK at e1 e2 e3 ⊢
  rw[U.b,aC e1,aC e2,aC e3];unfold bN;rw[e4]
 have hp:dh (fK ti).n [St s fl]=[St s fl,.no]:=rfl;unfold aI;simp only[vars,bY,hi,List.map_cons,List.map_nil];rw[fN ⟨rfl,by simp⟩,hp,body]
 rfl
end
def jx(ti:Nat):Fx:=⟨2,5,[(.set 2 (.call ti [(.slot 0),(.bin .Add (.blt .len [(.slot 1)]) (.val (.int 1)))])),(.set 3 (.ix (.lst [(.blt .len [(.slot 1)]),(.neg (.val (.int 1))),(.val (.bl true)),(.val .non),(.val (.str (PySem.Str.ofString "0"))),(.tup [(.val (.int 0))]),(.bin .Pow (.val (.int 10)) (.val (.int 29))),(.val (.int 0)),(.val (.bl false)),(.bin .Sub (.blt .len [(.slot 1)]) (.val (.int 1)))]) (.call ti [(.slot 0),(.val (.int 10))]))),(.set 4 (.lst [(.bin .Add (.bin .Add (.slice (.slot 1) none (some (.slot 2))) (.tup [(.slot 3)])) (.slice (.slot 1) (some (.bin .Add (.slot 2) (.val (.int 1)))) none)),(.bin .Add (.bin .Add (.slice (.slot 1) none (some (.slot 2))) (.tup [(.slot 3)])) (.slice (.slot 1) (some (.slot 2)) none)),(.bin .Add (.slice (.slot 1) none (some (.slot 2))) (.slice (.slot 1) (some (.bin .Add (.slot 2) (.val (.int 1)))) none))])),(.set 4 (.bin .Add (.slot 4) (.lst [(.rev (.slot 1)),(.blt .list [(.slot 1)]),(.val .non),.emp,(.val (.int 0)),(.tup []),(.bin .Mult (.tup [(.val (.int 0))]) (.val (.int 12))),(.bin .Mult (.tup [(.val (.int 0))]) (.val (.int 13))),(.bin .Add (.slot 1) (.slot 1))]))),(.ret (.ix (.slot 4) (.call ti [(.slot 0),(.val (.int 12))])))]⟩
section
variable{k n:Nat}{g g1:G}{rn:Nat->Rn}{fns:List Fx}{ti:Nat}(U:iY fns rn)(hT:fns[ti]?=some aK)
include U hT
theorem GX{i:Nat}{s:Int}{fl:Bool}(t:List Int)(ht:1<=t.length/\t.length<=12)(hi:g[i]?=some (St s fl)):∃(d:D) (s':Int),Nk d/\aI (rn (n+60)) (jx ti) (k+1) [.var i,.dat (~~~t)] g=some (.dat d,g.set i (St s' fl)):=by
 have hml:(t.map D.int).length=t.length:=eR _;obtain⟨p,s1,p1,p2,q1⟩:=aR U (n:=n+38) (k:=k) (g:=[St s fl,.dat (~~~t),.no,.no,.no]) (i:=0) (s:=s) (fl:=fl) (m:=(t.length:Int)+1) rfl ⋯;have jJ:aI (rn (n+58)) aK k [.var 0,.dat (.int ((t.length:Int)+1))] [St s fl,.dat (~~~t),.no,.no,.no]=some (.dat (.int p),[St s1 fl,.dat (~~~t),.no,.no,.no]):=q1;obtain⟨pn,rfl⟩:∃pn:Nat,p=pn:=⟨p.toNat,by lia⟩
 have e1:aE (rn (n+59)) [0] (k+1) (.set 2 (.call ti [(.slot 0),(.bin .Add (.blt .len [(.slot 1)]) (.val (.int 1)))])) [St s fl,.dat (~~~t),.no,.no,.no]=some (.nx,[St s1 fl,.dat (~~~t),.dat (.int pn),.no,.no]):=by simp! [U,hT,jJ]
 obtain⟨r,s3,r1,r2,q3⟩:=aR U (n:=n+37) (k:=k) (g:=[St s1 fl,.dat (~~~t),.dat (.int pn),.no,.no]) (i:=0) (s:=s1) (fl:=fl) (m:=10) rfl ⋯;have Hu:aI (rn (n+57)) aK k [.var 0,.dat (.int 10)] [St s1 fl,.dat (~~~t),.dat (.int pn),.no,.no]=some (.dat (.int r),[St s3 fl,.dat (~~~t),.dat (.int pn),.no,.no]):=q3;obtain⟨o,ho,eo⟩:=mG (l:=[D.int (t.length:Int),.int (-1),.bl true,.non,.str (PySem.Str.ofString "0"),.tup [.int 0],.int 100000000000000000000000000000,.int 0,.bl false,.int ((t.length:Int) - 1)]) (r:=r) ⟨r1,r2⟩;have e2:aE (rn (n+59)) [0] (k+1) (.set 3 (.ix (.lst [(.blt .len [(.slot 1)]),(.neg (.val (.int 1))),(.val (.bl true)),(.val .non),(.val (.str (PySem.Str.ofString "0"))),(.tup [(.val (.int 0))]),(.bin .Pow (.val (.int 10)) (.val (.int 29))),(.val (.int 0)),(.val (.bl false)),(.bin .Sub (.blt .len [(.slot 1)]) (.val (.int 1)))]) (.call ti [(.slot 0),(.val (.int 10))]))) [St s1 fl,.dat (~~~t),.dat (.int pn),.no,.no]=some (.nx,[St s3 fl,.dat (~~~t),.dat (.int pn),.dat o,.no]):=by simp! [U,hT,Hu,GF,ao 1 ⋯,ao 10 ⋯,eo]
 generalize hA:iR (t.map D.int) none (some (pn:Int))=A;generalize hB:iR (t.map D.int) (some ((pn:Int)+1)) none=B;generalize hC:iR (t.map D.int) (some (pn:Int)) none=C;have pA:A.length<=12:=by rw[<- hA];exact l6 (oN _ _ _) ⋯
 have pB:B.length<=12:=by rw[<- hB];exact l6 (oN _ _ _) ⋯
 have pC:C.length<=12:=by rw[<- hC];exact l6 (oN _ _ _) ⋯
 have pO:(A++[o]).length<=13:=by simp;lia
 have e3:aE (rn (n+59)) [0] (k+1) (.set 4 (.lst [(.bin .Add (.bin .Add (.slice (.slot 1) none (some (.slot 2))) (.tup [(.slot 3)])) (.slice (.slot 1) (some (.bin .Add (.slot 2) (.val (.int 1)))) none)),(.bin .Add (.bin .Add (.slice (.slot 1) none (some (.slot 2))) (.tup [(.slot 3)])) (.slice (.slot 1) (some (.slot 2)) none)),(.bin .Add (.slice (.slot 1) none (some (.slot 2))) (.slice (.slot 1) (some (.bin .Add (.slot 2) (.val (.int 1)))) none))])) [St s3 fl,.dat (~~~t),.dat (.int pn),.dat o,.no]=some (.nx,[St s3 fl,.dat (~~~t),.dat (.int pn),.dat o,.own [.tup (A++[o]++B),.tup (A++[o]++C),.tup (A++B)]]):=by simp! [U,yt,hA,hB,hC,jW A [o] (by simp;lia),jW (A++[o]) B ⋯,jW (A++[o]) C ⋯,jW A B ⋯,ao 1 ⋯,ao 3 ⋯]
 generalize hZ:[D.tup (A++[o]++B),.tup (A++[o]++C),.tup (A++B)]=Z at e3;have zl:Z.length=3:=by rw[<- hZ];rfl
 have YM:mj .Mult (.tup [.int 0]) (.int 12)=some (.dat (.tup (List.replicate 12 (.int 0)))):=rfl;have YQ:mj .Mult (.tup [.int 0]) (.int 13)=some (.dat (.tup (List.replicate 13 (.int 0)))):=rfl;generalize h12:List.replicate 12 (D.int 0)=z12 at YM;generalize h13:List.replicate 13 (D.int 0)=z13 at YQ;generalize hY:[D.tup (t.map D.int).reverse,.lst (t.map D.int),.non,.emp,.int 0,.tup [],.tup z12,.tup z13,.tup (t.map D.int++t.map D.int)]=Y;have yl:Y.length=9:=by rw[<- hY];rfl
 have e4:aE (rn (n+59)) [0] (k+1) (.set 4 (.bin .Add (.slot 4) (.lst [(.rev (.slot 1)),(.blt .list [(.slot 1)]),(.val .non),.emp,(.val (.int 0)),(.tup []),(.bin .Mult (.tup [(.val (.int 0))]) (.val (.int 12))),(.bin .Mult (.tup [(.val (.int 0))]) (.val (.int 13))),(.bin .Add (.slot 1) (.slot 1))]))) [St s3 fl,.dat (~~~t),.dat (.int pn),.dat o,.own Z]=some (.nx,[St s3 fl,.dat (~~~t),.dat (.int pn),.dat o,.own (Z++Y)]):=by simp! [U,ao 1 ⋯,ao 9 ⋯,ao 0 ⋯,YM,YQ,jW (t.map D.int) (t.map D.int) ⋯,hY,ao Y.length ⋯,mH Z Y ⋯]
 obtain⟨r',s4,w1,w2,q4⟩:=aR U (n:=n+37) (k:=k) (g:=[St s3 fl,.dat (~~~t),.dat (.int pn),.dat o,.own (Z++Y)]) (i:=0) (s:=s3) (fl:=fl) (m:=12) rfl ⋯;have Xl:aI (rn (n+57)) aK k [.var 0,.dat (.int 12)] [St s3 fl,.dat (~~~t),.dat (.int pn),.dat o,.own (Z++Y)]=some (.dat (.int r'),[St s4 fl,.dat (~~~t),.dat (.int pn),.dat o,.own (Z++Y)]):=q4;obtain⟨d,hd,ed⟩:=mG (l:=Z++Y) (r:=r') ⟨w1,by rw[gL,zl,yl];exact w2⟩
 have e5:aE (rn (n+59)) [0] (k+1) (.ret (.ix (.slot 4) (.call ti [(.slot 0),(.val (.int 12))]))) [St s3 fl,.dat (~~~t),.dat (.int pn),.dat o,.own (Z++Y)]=some (.rt (.dat d),[St s4 fl,.dat (~~~t),.dat (.int pn),.dat o,.own (Z++Y)]):=by simp! [U,hT,Xl,ed]
 have hf:Nk d:=by
  rw[<- hZ,<- hY]at hd;simp only[o0,d0,mE,AI]at hd;rcases hd with (rfl |rfl |rfl) | (rfl |rfl |rfl |rfl |rfl |rfl |rfl |rfl |rfl)
  . show (A++[o]++B).length<=40;rw[gL];lia
  . show (A++[o]++C).length<=40;rw[gL];lia
  . show (A++B).length<=40;rw[gL];lia
  . show (t.map D.int).reverse.length<=40;rw[sT];lia
  . trivial
  . trivial
  . trivial
  . trivial
  . exact wE _
  . show z12.length<=40;rw[<- h12];decide
  . show z13.length<=40;rw[<- h13];decide
  . show (t.map D.int++t.map D.int).length<=40;rw[gL];lia
 refine⟨d,s4,hf,?_⟩;have hp:dh (jx ti).n [St s fl,.dat (~~~t)]=[St s fl,.dat (~~~t),.no,.no,.no]:=rfl;have body:(rn (n+60)).b [0] (k+1) (jx ti).body [St s fl,.dat (~~~t),.no,.no,.no]=some (.rt (.dat d),[St s4 fl,.dat (~~~t),.dat (.int pn),.dat o,.own (Z++Y)]):=by unfold jx;rw[U.b,aC e1,aC e2,aC e3,aC e4];unfold bN;rw[e5]
 unfold aI;simp only[vars,bY,hi,List.map_cons,List.map_nil];rw[fN ⟨rfl,by simp⟩,hp,body]
 rfl
end
end Ev
namespace bF
open Ev
def iV:List PySem.Addr:=[37]
def Up:Fx:=⟨1,4,[(.set 1 (.val .non)),.stuck,(.set 3 (.lst [(.lR (.slot 1) [(37,true)]),(.lR (.slot 1) [(37,false)]),(.lR (.slot 1) [(37,false)])])),(.set 3 (.bin .Add (.slot 3) (.lst [(.lR (.slot 1) [(37,false)]),(.lR (.slot 1) [(37,false)]),(.lR (.slot 1) [(37,false)])]))),(.set 3 (.bin .Add (.slot 3) (.lst [(.lR (.slot 1) [(37,false)]),(.lR (.slot 1) [(37,false)]),(.lR (.slot 1) [(37,false)])]))),(.set 3 (.bin .Add (.slot 3) (.lst [(.lR (.slot 1) [(37,false)]),(.lR (.slot 1) [(37,false)]),(.lR (.slot 1) [(37,false)])]))),(.set 3 (.bin .Add (.slot 3) (.lst [(.lR (.slot 1) [(37,false)]),(.lR (.slot 1) [(37,false)]),(.lR (.slot 1) [(37,false)])]))),(.ite (.not (.lR (.slot 1) [(37,true)])) [(.ret (.val .non))] []),(.ret (.comp 4 2 (.nm 5) (.cC (.val (.int 15))) (some (.ix (.slot 3) (.slot 5))) (.slot 5)))]⟩
noncomputable def u5:List Sm:=[(.ite (.not (.peek (.call 15 [(.call 8 [(.slot 4)]),(.call 17 [(.slot 4)])]))) [(.ret (.val (.bl false)))] [])]
noncomputable def u6:List Sm:=[(.set 2 (.call 11 [(.slot 0),(.slot 1)])),(.set 3 (.call 13 [(.slot 2),(.ix (.lst [(.val (.int 6)),(.val (.int 12)),(.val (.int 9))]) (.call 12 [(.slot 2),(.val (.int 3))]))])),(.loop (.nm 4) (.bin .Add (.lst [(.slot 3),(.tup [(.val (.int 0))]),(.tup []),(.tup [(.val (.int 1))])]) (.comp 7 2 (.nm 8) (.cC (.val (.int 6))) none (.call 14 [(.slot 2),(.slot 3)]))) u5),(.tgt (.tp [5,6]) (.tup [(.call 21 [(.slot 2)]),(.call 22 [(.slot 2)])])),(.ite (.not (.peek (.call 15 [(.call 9 [(.slot 5)]),(.call 24 [(.slot 5)])]))) [(.ret (.val (.bl false)))] []),(.ite (.cmp .NotEq (.iU 25 1 iV (.call 9 [(.slot 6)])) (.lst [(.val (.int 0))])) [(.ret (.val (.bl false)))] [])]
def Uq:Fx:=⟨1,7,[(.loop (.nm 1) (.cC (.blt .max [(.val (.int 1)),(.blt .min [(.blt .len [(.slot 0)]),(.val (.int 8))])])) u6),(.ret (.val (.bl true)))]⟩
def fns:List Fx:=[bx,bO 0,oO,jw 1 4 5,jv 1,wR,dc 3 0,oU,bW 1 2,cP 6 7,lH,kW 10,aK,cN 12,jx 12,dg 15,bx,aZ 16,fy,gA 12,gB 12 18 19,oM 12 18 19 20,fK 12,qI,GQ 23,Up,Uq]
theorem c0:fns[0]?=some (bx):=rfl
theorem c1:fns[1]?=some (bO 0):=rfl
theorem c2:fns[2]?=some (oO):=rfl
theorem c3:fns[3]?=some (jw 1 4 5):=rfl
theorem c4:fns[4]?=some (jv 1):=rfl
theorem c5:fns[5]?=some (wR):=rfl
theorem c6:fns[6]?=some (dc 3 0):=rfl
theorem c7:fns[7]?=some (oU):=rfl
theorem c8:fns[8]?=some (bW 1 2):=rfl
theorem c9:fns[9]?=some (cP 6 7):=rfl
theorem c10:fns[10]?=some (lH):=rfl
theorem c11:fns[11]?=some (kW 10):=rfl
theorem c12:fns[12]?=some (aK):=rfl
theorem c13:fns[13]?=some (cN 12):=rfl
theorem c14:fns[14]?=some (jx 12):=rfl
theorem YS:fns[15]?=some (dg 15):=rfl
theorem c16:fns[16]?=some (bx):=rfl
theorem c17:fns[17]?=some (aZ 16):=rfl
theorem c18:fns[18]?=some (fy):=rfl
theorem c19:fns[19]?=some (gA 12):=rfl
theorem c20:fns[20]?=some (gB 12 18 19):=rfl
theorem c21:fns[21]?=some (oM 12 18 19 20):=rfl
theorem c22:fns[22]?=some (fK 12):=rfl
theorem c23:fns[23]?=some (qI):=rfl
theorem c24:fns[24]?=some (GQ 23):=rfl
theorem c25:fns[25]?=some (Up):=rfl
end bF
namespace bF
open Ev
def Xu(rn:Rn)(k:Nat)(C:Nat)(c:Int):Prop:=∃r g3,rn.b [] k (Up.body.drop 2) ((List.replicate Up.n .no).set 1 (.dat (.lq C)))=some (.rt r,g3)/\cV [] g3 r=some (.new [.int c])
structure Fk(rn:Nat->Rn)(n k:Nat):Prop where
 YF:∀d∈gD,Si (rn (n+124)) (k+9) (dc 3 0) [d]=some 0
 a0:Xu (rn (n+127)) (k+11) 37 0
section
variable{k n:Nat}{g g1:G}{rn:Nat->Rn}(U:iY fns rn)(F:Fk rn n k)
include U F
theorem Tf(d:D)(hd:Nk d)(a0 a1 a2 a3 a5 a6:Slot):(rn (n+129)).b [] (k+13) u5 [a0,a1,a2,a3,.dat d,a5,a6]=some (.nx,[a0,a1,a2,a3,.dat d,a5,a6]):=by
 have q1:=λn k=>uX U c0 c1 c2 (n:=n) (k:=k) d hd
 have q2:=λn k=>oR U c16 (n:=n) (k:=k) d hd
 have q3:=λn k=>sE U YS 0 n k (.bl (wW d)) trivial
 simp only[Nat.reduceMul,Nat.add_assoc,Nat.reduceAdd,Nat.add_zero]at q3;have hz:List.map iN [a0,a1,a2,a3,.dat d,a5,a6]=[iN a0,iN a1,iN a2,iN a3,.dat d,iN a5,iN a6]:=rfl;unfold u5;simp! [U,hz,c8,bG (fx:=bW 1 2) rfl,q1,c17,bG (fx:=aZ 16) rfl,q2,YS,cZ (fx:=dg 15) rfl,q3,flat]
theorem cell(ns:List Int)(hl:ns.length<=63)(j:Nat)(a2 a3 a4 a5 a6:Slot):∃b2 b3 b4 b5 b6,(rn (n+130)).b [] (k+13) u6 [.dat (.fix (ns.map .int)),.dat (.int j),a2,a3,a4,a5,a6]=some (.nx,[.dat (.fix (ns.map .int)),.dat (.int j),b2,b3,b4,b5,b6]):=by
 obtain⟨s,fl,q1⟩:=Gu U c10 (n:=n+88) (k:=k+11) ns ⋯ j;generalize hA0:Slot.dat (.fix (ns.map .int))=A0;generalize hA1:Slot.dat (.int (j:Int))=A1;have e1:aE (rn (n+129)) [] (k+13) (.set 2 (.call 11 [(.slot 0),(.slot 1)])) [A0,A1,a2,a3,a4,a5,a6]=some (.nx,[A0,A1,St s fl,a3,a4,a5,a6]):=by subst hA0 hA1;simp! [U,c11,cZ (fx:=kW 10) rfl,q1]
 obtain⟨r,s1,r1,r2,q2⟩:=aR U (n:=n+106) (k:=k+12) (g:=[A0,A1,St s fl,a3,a4,a5,a6]) (i:=2) (s:=s) (fl:=fl) (m:=3) rfl ⋯;have rF:aI (rn (n+126)) aK (k+12) [.var 2,.dat (.int 3)] [A0,A1,St s fl,a3,a4,a5,a6]=some (.dat (.int r),[A0,A1,St s1 fl,a3,a4,a5,a6]):=q2;obtain⟨mo,hmo,hr⟩:∃mo:Int,(4<=mo/\mo<=12)/\L2.fQ [D.int 6,.int 12,.int 9] r=some (.int mo):=by
  have:r=0\/r=1\/r=2:=by lia
  rcases this with rfl |rfl |rfl
  . exact⟨6,by decide,rfl⟩
  . exact⟨12,by decide,rfl⟩
  . exact⟨9,by decide,rfl⟩
 obtain⟨t,s2,ht,q3⟩:=sG U c12 (n:=n+28) (k:=k+11) (g:=[A0,A1,St s1 fl,a3,a4,a5,a6]) (i:=2) (s:=s1) (fl:=fl) mo hmo rfl;have Hu:aI (rn (n+128)) (cN 12) (k+12) [.var 2,.dat (.int mo)] [A0,A1,St s1 fl,a3,a4,a5,a6]=some (.dat (~~~t),[A0,A1,St s2 fl,a3,a4,a5,a6]):=q3;have e2:aE (rn (n+129)) [] (k+13) (.set 3 (.call 13 [(.slot 2),(.ix (.lst [(.val (.int 6)),(.val (.int 12)),(.val (.int 9))]) (.call 12 [(.slot 2),(.val (.int 3))]))])) [A0,A1,St s fl,a3,a4,a5,a6]=some (.nx,[A0,A1,St s2 fl,.dat (~~~t),a4,a5,a6]):=by simp! [U,c12,rF,hr,c13,Hu,ao 3 ⋯]
 obtain⟨ds,s3,d1,d2,d3⟩:=qJ (rn:=rn (n+127)) (bor:=[]) (k:=k+13) (i:=2) (j:=8) (nn:=7) (kk:=2) (fl:=fl) (it:=.cC (.val (.int 6))) (e:=.call 14 [(.slot 2),(.slot 3)]) (P:=Nk) [A0,A1,St s2 fl,.dat (~~~t),a4,a5,a6] s2 rfl (cu 0 6) (by simp! [U,fX,aP 6 ⋯]) rfl (show 7<=8 by decide) (show 8<7+2 by decide) ⋯ (ao _ ⋯)
  (λs G' h0 hG=>by
   have h3:G'[3]?=some (.dat (~~~t)):=hG 3 ⋯ (show 3<7 by decide)
   obtain⟨d,s',hd,q⟩:=GX U c12 (n:=n+66) (k:=k+11) (g:=G') (i:=2) (s:=s) (fl:=fl) t ht h0;have q':aI (rn (n+126)) (jx 12) (k+12) [.var 2,.dat (~~~t)] G'=some (.dat d,G'.set 2 (St s' fl)):=q;refine⟨d,s',hd,?_⟩;simp! [U,c14,h0,h3,q'])
 have d3':bZ (rn (n+127)) [] (k+13) 7 2 (.nm 8) (.cC (.val (.int 6))) none (.call 14 [(.slot 2),(.slot 3)]) [A0,A1,St s2 fl,.dat (~~~t),a4,a5,a6]=some (ds,[A0,A1,St s3 fl,.dat (~~~t),a4,a5,a6]):=d3;have dl:ds.length=6:=d1;have o:=mH [~~~t,.tup [.int 0],.tup [],.tup [.int 1]] ds (by simp;lia)
 generalize hY:[~~~t,.tup [.int 0],.tup [],.tup [.int 1]]=Y at o;have yl:Y.length=4:=by rw[<- hY];rfl
 have hY4:Y.length<=lim:=ao _ ⋯;have hw:fX (rn (n+129)) [] (k+13) false (.bin .Add (.lst [(.slot 3),(.tup [(.val (.int 0))]),(.tup []),(.tup [(.val (.int 1))])]) (.comp 7 2 (.nm 8) (.cC (.val (.int 6))) none (.call 14 [(.slot 2),(.slot 3)]))) [A0,A1,St s2 fl,.dat (~~~t),a4,a5,a6]=some (Y++ds,[A0,A1,St s3 fl,.dat (~~~t),a4,a5,a6]):=by unfold fX;simp! [U,d3',ao 4 ⋯,ao 1 ⋯,ao 0 ⋯,hY,hY4,o]
 have few:∀d∈Y++ds,Nk d:=λd hd=>by
  rcases o0.mp hd with hd |hd
  .
   rw[<- hY]at hd;simp only[d0,mE,AI]at hd;rcases hd with rfl |rfl |rfl |rfl
   . show (t.map D.int).length<=40;rw[eR];lia
   . show 1<=40;decide
   . show 0<=40;decide
   . show 1<=40;decide
  . exact d2 d hd
 obtain⟨g',⟨_,b4,rfl⟩,h3⟩:=cO (T:=.nm 4) (b:=(rn (n+129)).b [] (k+13) u5) (λd:D=>d)
  (I:=λl g=>(∀d∈l,Nk d)/\∃b4:Slot,g=[A0,A1,St s3 fl,.dat (~~~t),b4,a5,a6])
  (step:=λd l g h=>by
   obtain⟨h0,b4,rfl⟩:=h;exact⟨_,_,rfl,Tf U F d (h0 d dA) A0 A1 (St s3 fl) (.dat (~~~t)) a5 a6,λx hx=>h0 x (b0 _ hx),_,rfl⟩) (Y++ds) [A0,A1,St s3 fl,.dat (~~~t),a4,a5,a6] ⟨few,a4,rfl⟩
 rw[List.map_id']at h3;have e3:aE (rn (n+129)) [] (k+13) (.loop (.nm 4) (.bin .Add (.lst [(.slot 3),(.tup [(.val (.int 0))]),(.tup []),(.tup [(.val (.int 1))])]) (.comp 7 2 (.nm 8) (.cC (.val (.int 6))) none (.call 14 [(.slot 2),(.slot 3)]))) u5) [A0,A1,St s2 fl,.dat (~~~t),a4,a5,a6]=some (.nx,[A0,A1,St s3 fl,.dat (~~~t),b4,a5,a6]):=by simp only[aE,Tg.ix,Tg.kJ,hw,h3];simp
 obtain⟨m,ak,s4,hm,h,q5⟩:=Lr U c12 c18 c19 c20 (n:=n+27) (k:=k+7) (g:=[A0,A1,St s3 fl,.dat (~~~t),b4,a5,a6]) (i:=2) (s:=s3) (fl:=fl) rfl;have q5':aI (rn (n+127)) (oM 12 18 19 20) (k+12) [.var 2] [A0,A1,St s3 fl,.dat (~~~t),b4,a5,a6]=some (.dat (W m ak),[A0,A1,St s4 fl,.dat (~~~t),b4,a5,a6]):=q5;obtain⟨b,s5,hb,q6⟩:=LK U c12 (n:=n+67) (k:=k+11) (g:=[A0,A1,St s4 fl,.dat (~~~t),b4,a5,a6]) (i:=2) (s:=s4) (fl:=fl) rfl;have q6':aI (rn (n+127)) (fK 12) (k+12) [.var 2] [A0,A1,St s4 fl,.dat (~~~t),b4,a5,a6]=some (.dat b,[A0,A1,St s5 fl,.dat (~~~t),b4,a5,a6]):=q6;have st:Tg.set (.tp [5,6]) (.tup [W m ak,b]) [A0,A1,St s5 fl,.dat (~~~t),b4,a5,a6]=some [A0,A1,St s5 fl,.dat (~~~t),b4,.dat (W m ak),.dat b]:=rfl;have e4:aE (rn (n+129)) [] (k+13) (.tgt (.tp [5,6]) (.tup [(.call 21 [(.slot 2)]),(.call 22 [(.slot 2)])])) [A0,A1,St s3 fl,.dat (~~~t),b4,a5,a6]=some (.nx,[A0,A1,St s5 fl,.dat (~~~t),b4,.dat (W m ak),.dat b]):=by simp! [U,c21,q5',c22,q6',ao 2 ⋯,Tg.ix,st]
 generalize Slot.dat (~~~t)=A3 at e2 e3 e4;generalize St s5 fl=A2 at e4;have q7:=λn k=>uZ U c0 c1 c4 c5 c3 c7 c6 (n:=n) (k:=k) m hm ak h
 have q8:=λn k=>S9 U c23 (n:=n) (k:=k) m hm ak h
 have sd:Sd 1 (~~~(S0 m ak)):=by
  refine⟨?_,λx hx=>by obtain⟨i,_,rfl⟩:=i3.mp hx;trivial⟩
  rw[eR];unfold S0;rw[sT,(bJ _).length_eq,wY];lia
 have q9:=λn k=>sE U YS 1 n k _ sd
 simp only[Nat.reduceMul,Nat.add_assoc,Nat.reduceAdd]at q9;have hz:List.map iN [A0,A1,A2,A3,b4,.dat (W m ak),.dat b]=[iN A0,iN A1,iN A2,iN A3,iN b4,.dat (W m ak),.dat b]:=rfl;generalize hD : ~~~(S0 m ak)=dd at q7 q8 q9;have e5:aE (rn (n+129)) [] (k+13) (.ite (.not (.peek (.call 15 [(.call 9 [(.slot 5)]),(.call 24 [(.slot 5)])]))) [(.ret (.val (.bl false)))] []) [A0,A1,A2,A3,b4,.dat (W m ak),.dat b]=some (.nx,[A0,A1,A2,A3,b4,.dat (W m ak),.dat b]):=by simp! [U,hz,c9,bG (fx:=cP 6 7) rfl,q7,c24,bG (fx:=GQ 23) rfl,q8,YS,cZ (fx:=dg 15) rfl,q9,flat]
 generalize Slot.dat (W m ak)=A5 at e4 e5;have y1:=F.YF b hb;obtain⟨r,g3,f1,f2⟩:=F.a0;have nz:List.map noOwn [A0,A1,A2,A3,b4,A5,.dat b]=[noOwn A0,noOwn A1,noOwn A2,noOwn A3,noOwn b4,noOwn A5,.dat b]:=rfl;have z1:Si (rn (n+126)) (k+10) (cP 6 7) [b]=some 0:=by unfold Si cP;simp! [U,c6,yL (fx:=dc 3 0) rfl,y1]
 have x1:(rn (n+127)).x [] (k+11) (.call 9 [(.slot 6)]) (List.map noOwn [A0,A1,A2,A3,b4,A5,.dat b])=some (0,[noOwn A0,noOwn A1,noOwn A2,noOwn A3,noOwn b4,noOwn A5,.dat b]):=by rw[nz];simp! [U,c9,yL (fx:=cP 6 7) rfl,z1]
 have hc:iV[0]?=some 37:=rfl;have rr:(rn (n+128)).e [] (k+13) (.iU 25 1 iV (.call 9 [(.slot 6)])) [A0,A1,A2,A3,b4,A5,.dat b]=some (.new [.int 0],[A0,A1,A2,A3,b4,A5,.dat b]):=by rw[U.e];simp only[aW,c25,x1,hc,f1,f2]
 have ll:(rn (n+128)).e [] (k+13) (.lst [(.val (.int 0))]) [A0,A1,A2,A3,b4,A5,.dat b]=some (.new [.int 0],[A0,A1,A2,A3,b4,A5,.dat b]):=by simp! [U,ao 1 ⋯]
 have cm:fz .NotEq (.lst [.int 0]) (.lst [.int 0])=some false:=wQ [0] [0];have e6:aE (rn (n+129)) [] (k+13) (.ite (.cmp .NotEq (.iU 25 1 iV (.call 9 [(.slot 6)])) (.lst [(.val (.int 0))])) [(.ret (.val (.bl false)))] []) [A0,A1,A2,A3,b4,A5,.dat b]=some (.nx,[A0,A1,A2,A3,b4,A5,.dat b]):=by simp only[aE,U.t,stepT,argsR,rr,ll,norm,pk,cm,U.b,bN]
 refine⟨A2,A3,b4,A5,.dat b,?_⟩;unfold u6;rw[U.b,aC e1,aC e2,aC e3,aC e4,aC e5,aC e6];rfl
theorem whole(ns:List Int)(hl:ns.length<=63):∃g',(rn (n+131)).b [] (k+13) Uq.body [.dat (.fix (ns.map .int)),.no,.no,.no,.no,.no,.no]=some (.rt (.dat (.bl true)),g'):=by
 have loop:=cO (T:=.nm 1) (b:=(rn (n+130)).b [] (k+13) u6) (λ(j:Nat)=>D.int (0+(j:Int)))
  (I:=λ(l:List Nat) g=>∃(s1 s2 s3 s4 s5 s6:Slot),g=[.dat (.fix (ns.map .int)),s1,s2,s3,s4,s5,s6])
  (step:=λa l g h=>by
   obtain⟨s1,s2,s3,s4,s5,s6,rfl⟩:=h;rw[Int.zero_add];obtain⟨b2,b3,b4,b5,b6,q⟩:=cell U F ns hl a s2 s3 s4 s5 s6;exact⟨_,_,rfl,q,_,_,_,_,_,_,rfl⟩)
 obtain⟨M,hM,YK⟩:∃M:Nat,M<=8/\(if ((if (8:Int)<ns.length then 8 else (ns.length:Int))) > 1 then (if (8:Int)<ns.length then 8 else (ns.length:Int))else 1)=(M:Int):=by
  refine⟨(if ((if (8:Int)<ns.length then 8 else (ns.length:Int))) > 1 then (if (8:Int)<ns.length then 8 else (ns.length:Int))else 1).toNat,?_,?_⟩
  . split <;> (try split) <;> lia
  . split <;> (try split) <;> lia
 obtain⟨g2,⟨s1,s2,s3,s4,s5,s6,rfl⟩,h4⟩:=loop (List.range M) [.dat (.fix (ns.map .int)),.no,.no,.no,.no,.no,.no] ⟨_,_,_,_,_,_,rfl⟩;have hv:gP (rn (n+130)) [] (k+13) (.blt .max [(.val (.int 1)),(.blt .min [(.blt .len [(.slot 0)]),(.val (.int 8))])]) [.dat (.fix (ns.map .int)),.no,.no,.no,.no,.no,.no]=some (.int (M:Int),[.dat (.fix (ns.map .int)),.no,.no,.no,.no,.no,.no]):=by rw[<- YK];simp! [U,oJ]
 have hw:fX (rn (n+130)) [] (k+13) false (.cC (.blt .max [(.val (.int 1)),(.blt .min [(.blt .len [(.slot 0)]),(.val (.int 8))])])) [.dat (.fix (ns.map .int)),.no,.no,.no,.no,.no,.no]=some ((List.range M).map λ(x:Nat)=>D.int (0+(x:Int)),[.dat (.fix (ns.map .int)),.no,.no,.no,.no,.no,.no]):=by unfold fX;dsimp only;rw[hv];dsimp only;rw[fN (aP M ⋯),tJ];rfl
 have e1:aE (rn (n+130)) [] (k+13) (.loop (.nm 1) (.cC (.blt .max [(.val (.int 1)),(.blt .min [(.blt .len [(.slot 0)]),(.val (.int 8))])])) u6) [.dat (.fix (ns.map .int)),.no,.no,.no,.no,.no,.no]=some (.nx,[.dat (.fix (ns.map .int)),s1,s2,s3,s4,s5,s6]):=by simp only[aE,Tg.ix,Tg.kJ,hw,h4];simp
 refine⟨[.dat (.fix (ns.map .int)),s1,s2,s3,s4,s5,s6],?_⟩;unfold Uq;rw[U.b,aC e1];simp! [U,U.e]
end
end bF
namespace bF
open Ev
theorem bad1:(gD.all λd=>decide (Si (run fns (0+124)) (0+9) (dc 3 0) [d]=some 0))=true:=by decide +kernel
def rfB(rn:Rn)(k:Nat)(C:Nat)(c:Int):Bool:=match rn.b [] k (Up.body.drop 2) ((List.replicate Up.n .no).set 1 (.dat (.lq C)))with
 |some (.rt r,g3)=>(match cV [] g3 r with |some (.new [.int c'])=>decide (c'=c) |_=>false)
 |_=>false
theorem Ti{rn:Rn}{k C:Nat}{c:Int}(h:rfB rn k C c=true):Xu rn k C c:=by
 unfold rfB at h;split at h
 .
  rename_i r g3 e;split at h
  . rename_i c' e2;rw[kA h]at e2;exact⟨r,g3,e,e2⟩
  . cases h
 . cases h
theorem Tj:Fk (run fns) 0 0:=⟨λd hd=>kA (mP.mp bad1 d hd),Ti (by decide +kernel)⟩
def kk:Nat:=13
def fuel:Nat:=131
theorem hev(ns:List Int)(hl:ns.length<=63):∃g',(run fns fuel).b [] kk Uq.body (dh 7 [.dat (.fix (ns.map .int))])=some (.rt (.dat (.bl true)),g'):=whole (Lj fns) Tj ns hl
end bF
namespace Ev
open L2
def Xv:Value->Bool
 |.str _ _=>true
 |_=>false
def LQ:Value->Bool
 |.int _ _=>true
 |_=>false
def Nm:Value->Bool
 |.bool _=>true
 |_=>false
noncomputable def LR(n:String):Value->Bool
 |.type m=>decide (m=n)
 |_=>false
noncomputable def Tp(q:Addr):Option Value->Bool
 |some (.ref p)=>decide (p=q)
 |_=>false
theorem sH{n:String}{v:Value}(h:LR n v=true):v=.type n:=by
 unfold LR at h;split at h
 . rw[kA h]
 . cases h
theorem LW{q:Addr}{v:Option Value}(h:Tp q v=true):v=some (.ref q):=by
 unfold Tp at h;split at h
 . rw[kA h]
 . cases h
def codeOk(K:Frag)(c q:Addr):Bool:=match K.lookup c with
 |some o=>(match o.data with
  |.fields vs=>LR "code" o.cls&&Tp q vs[11]?&&Xv (vs.getD 18 .none)&&LQ (vs.getD 7 .none)&&Nm (vs.getD 9 .none)&&LQ (vs.getD 10 .none)&&decide (c≠q)
  |_=>false)
 |none=>false
theorem qK{K:Frag}{h:Heap}{c q:Addr}(X:K.In h)(e:codeOk K c q=true):PySem.W.CodeHd h c q/\∃o vs,h.get? c=some o/\o.cls=.type "code" /\o.data=.fields vs/\vs[11]?=some (.ref q):=by
 unfold codeOk at e;split at e
 .
  rename_i o ho;split at e
  .
   rename_i vs hv;simp only[eP,hU]at e;obtain⟨⟨⟨⟨⟨⟨e1,e2⟩,e3⟩,e4⟩,e5⟩,e6⟩,e7⟩:=e;have r:=LW e2;have d:vs.getD 11 .none=.ref q:=by rw[wP,r];rfl
   unfold Xv at e3;split at e3
   .
    rename_i file tf h3;unfold LQ at e4;split at e4
    .
     rename_i fl tg h4;unfold Nm at e5;split at e5
     .
      rename_i b h5;unfold LQ at e6;split at e6
      . rename_i tx tt h6;exact⟨⟨o,vs,file,tf,fl,tg,b,tx,tt,X _ _ ho,sH e1,hv,r,d,h3,h4,h5,h6,e7⟩,o,vs,X _ _ ho,sH e1,hv,r⟩
      . cases e6
     . cases e5
    . cases e4
   . cases e3
  . cases e
 . cases e
def GZ(K:Frag)(c:Addr):Bool:=K.all λp=>decide (p.1=c)||!PySem.W.codeIn [p] (.ref p.1) "law"
theorem lookup_mem{β:Type}:∀{l:List (Addr×β)}{a:Addr}{b:β},l.lookup a=some b->(a,b)∈l
 | [],_,_,h=>by cases h
 | (x,y)::l,a,b,h=>by
  rw[oD]at h;by_cases e:a=x
  . subst e;simp at h;subst h;exact dA
  .
   have:(a==x)=false:=by simpa using e
   rw[this]at h;exact b0 _ (lookup_mem h)
noncomputable def Tq(K:Frag)(bm q:Addr):Bool:=match K.lookup bm with
 |some ⟨c,some d,.plain,_⟩=>LR "module" c&&decide (d=builtinsNs)&&decide (bm≠builtinsNs)&&decide (bm≠mainGlobals)&&decide (bm≠q)
 |_=>false
theorem Tr{K:Frag}{mg:Str->Option Value}{h:Heap}{c q bm:Addr}(X:K.In h)(G:h.Ns mainGlobals mg)(e1:GZ K c=true)(e2:codeOk K c q=true)(e3:cH K=[(q,iW)])(e4:PySem.W.nsIn K mainGlobals "__builtins__"=some (some (.ref bm)))(e5:Tq K bm q=true)(e6:mainGlobals≠q) :
  ∀bE,PySem.W.codeIn K bE "law"=true->Ez K mg bE:=λbE hc=>by
 cases bE with
 |ref c'=>
  cases hl:K.lookup c' with
  |none=>unfold PySem.W.codeIn at hc;simp only[hl]at hc;cases hc
  |some o=>
   have hm:=lookup_mem hl;have e0:PySem.W.codeIn [(c',o)] (.ref c') "law"=PySem.W.codeIn K (.ref c') "law" :=by
    have h1:List.lookup c' [(c',o)]=some o:=by simp
    unfold PySem.W.codeIn;simp only[hl,h1]
   have ec:c'=c:=by have:=mP.mp e1 _ hm;dsimp only at this;rw[e0,hc]at this;simpa using this
   subst ec;refine⟨c',q,rfl,λb hb=>(qK hb e2).1,by rw[e3];exact dA,λb hb=>?_,e6⟩
   unfold Tq at e5;split at e5
   . rename_i cc d sl hb2;simp only[eP,hU]at e5;obtain⟨⟨⟨⟨f1,f2⟩,f3⟩,f4⟩,f5⟩:=e5;exact⟨bm,_,B3 X G e4,f3,f4,f5,hb _ _ hb2,sH f1,by rw[f2],rfl⟩
   . cases e5
 |_=>cases hc
theorem u9{q:Addr}{K:Params->Frag}{w:World}{h:Heap}(e:(K w.params).lookup q=none)(Y:PySem.W.InK (pQ q K) w h):(K w.params).In h:=λa o ho=>by
 refine Y a o ?_;show List.lookup a ((q,_)::K w.params)=_;rw[oD];have:(a==q)=false:=by
  by_cases z:a=q
  . rw[z,e]at ho;cases ho
  . simpa using z
 rw[this];exact ho
theorem Aw{c q:Addr}{K:Params->Frag}{w:World}{h:Heap}(e:(K w.params).lookup q=none)(e2:codeOk (K w.params) c q=true)(Y:PySem.W.InK (pQ q K) w h):∀p∈[q],(∃c,h.TableAt c p #[])/\(K w.params).lookup p=none:=λp hp=>by
 cases gN.mp hp;refine⟨⟨c,(qK (u9 e Y) e2).2,Y _ _ ?_⟩,e⟩;show List.lookup q ((q,_)::K w.params)=_;simp
theorem G0{l:PySem.W.OpenLaw}{n k:Nat}{q:Program}{loose:List Str}{XP:(Str->Option Value)->Heap->Prop}{YP:World->Heap->Prop}{d:DefRec}{K:Params->Frag}{CX:zc}{sp:Frag->Sp}{x:Str}{T:List Addr}
  (hn:l.most=some n) (hn2:n<=sizeLine) (gQ:d.params.defaults=[]) (hr:cG k callerA)
  (hY:∀(w:World) (h:Heap),YP w h->(K w.params).In h) (hT:∀(w:World) (h:Heap),YP w h->∀q∈T,(∃c,h.TableAt c q #[])/\(K w.params).lookup q=none)
  (F:∀(w:World) (mg:Str->Option Value) (fa:Addr) (h:Heap),(K w.params).In h->h.Ns mainGlobals mg->mg d.name=some (.ref fa)->
   ∃fd:FuncData,(∀(s:Shared) (u:Value),BindsTo s fd ⟨[u],[]⟩ [(x,u)])/\
    ∀base:Heap,(K w.params).In base->base.Ns mainGlobals mg->iO l.prog w (K w.params) mg base CX k fa fd [x] (sp (K w.params)))
  (TQ:∀(w:World) (H:Hp) (a:Addr) (ns:List Int),ns.length<=n->yd T H->bX (K w.params) H a (ns.map V.int)->sp (K w.params) [.ref a] H (λv _=>v=.bl true) λ_ _ _=>False)
  (hCX:∀(H:Hp) (s:Shared) (e:Value) (s':Shared),CX [] H s (λ_ _ _=>False) e s'->False) :
  PySem.W.WalkO q loose XP YP l.row.toRowW d [] (λf vs=>PySem.call f vs):=by
 refine Att.tG hn gQ λw s₀ s₁ mg mb fa o pm cd doc a vs ns G Y ho hd bI hmg hobj hints aJ hg=>?_
 have KX:=hY w _ Y;obtain⟨fd,hb,hF⟩:=F w mg fa _ KX G.T.g hmg;exact zY KX (hT w _ Y) G.T.g G.T.b G.T.builtins G.T.nolimit hg hobj hints (l6 aJ hn2) hr hF hb (λH hO hS=>TQ w H a ns aJ hO hS) λH e s'=>hCX H s₁ e s'
noncomputable def kitF(K:Frag)(C:Addr):Bool:=["int", "bool", "str", "tuple", "list", "dict"].all λn=>decide (PySem.W.kitOne K (.ref C) (.type n)=some false)
theorem Tt{K:Frag}{C:Addr}(h1:PySem.W.findIn K (.ref C) "__getattribute__"=some (some (.builtin "BaseException.__getattribute__")))(h8:PySem.W.findIn K (.ref C) "__getattr__"=some none)(h9:PySem.W.mroIn K C (.type "BaseException")=some true)(h2:PySem.W.hasDictIn K C=true)(h3:PySem.W.findIn K (.ref C) "__class__"=some (some (.builtin "object.__class__")))(h4:PySem.W.specialIn K (.builtin "object.__class__") "__get__"=some (some (.builtin "getset_descriptor.__get__")))(h5:PySem.W.takesIn K (.builtin "object.__class__")=some true)(h6:PySem.W.mroIn K C (.type "object")=some true)(h7:kitF K C=true):Ht K C:=
 ⟨h1,h8,h9,h2,h3,h4,h5,h6,λn hn=>kA (mP.mp h7 n hn)⟩
noncomputable def fL(K:Frag)(cv:Value)(l:List (Addr×Bool)):Bool:=decide (PySem.W.kitOne K (.type "NoneType") cv=some false)&&l.all λp=>decide (PySem.W.kitOne K (.ref p.1) cv=some p.2)
theorem bK{P:Pg}{K:Frag}{mg:Str->Option Value}{h:Heap}{x:Str}{l:List (Addr×Bool)}{D:Addr}(X:K.In h)(G:h.Ns mainGlobals mg)(e1:(x==("__debug__":Str))=false)(e2:PySem.W.nsIn K mainGlobals x=some (some (.ref D)))(e3:fL K (.ref D) l=true) :
  (x==("__debug__":Str))=false/\∃cv,((mg x=some cv/\∃D,cv=.ref D)\/(x∈P.bn/\x≠ "__name__" /\bootBuiltins x=some cv/\∃n,cv=.type n))/\PySem.W.kitOne K (.type "NoneType") cv=some false/\∀C b,l.lookup C=some b->PySem.W.kitOne K (.ref C) cv=some b:=by
 unfold fL at e3;rw[eP]at e3;exact⟨e1,.ref D,.inl ⟨B3 X G e2,D,rfl⟩,kA e3.1,λC b hl=>kA (mP.mp e3.2 _ (lookup_mem hl))⟩
theorem G3{P:Pg}{K:Frag}{mg:Str->Option Value}{x:Str}{l:List (Addr×Bool)}{n:String}(e1:(x==("__debug__":Str))=false)(e2:x∈P.bn)(e4:x≠ "__name__")(e5:bootBuiltins x=some (.type n))(e3:fL K (.type n) l=true) :
  (x==("__debug__":Str))=false/\∃cv,((mg x=some cv/\∃D,cv=.ref D)\/(x∈P.bn/\x≠ "__name__" /\bootBuiltins x=some cv/\∃n,cv=.type n))/\PySem.W.kitOne K (.type "NoneType") cv=some false/\∀C b,l.lookup C=some b->PySem.W.kitOne K (.ref C) cv=some b:=by
 unfold fL at e3;rw[eP]at e3;exact⟨e1,.type n,.inr ⟨e2,e4,e5,n,rfl⟩,kA e3.1,λC b hl=>kA (mP.mp e3.2 _ (lookup_mem hl))⟩
theorem Xw{P:Pg}{K:Frag}{mg:Str->Option Value}(h1:∀bE,PySem.W.codeIn K bE "law"=true->Ez K mg bE)(h2:All (λp:Str×Addr=>mg p.1=some (.ref p.2)/\fc K p.2/\Ht K p.2) (P.cls.zip P.iV))(hl:P.iV.length<=P.cls.length)
  (h3:(P.kt==("__debug__":Str))=false/\∃D,mg P.kt=some (.ref D)/\fc K D/\All (λC=>uw K C D=true) P.iV)
  (h4:All (λp:Str×List (Addr×Bool)=>(p.1==("__debug__":Str))=false/\∃cv,((mg p.1=some cv/\∃D,cv=.ref D)\/(p.1∈P.bn/\p.1≠ "__name__" /\bootBuiltins p.1=some cv/\∃n,cv=.type n))/\PySem.W.kitOne K (.type "NoneType") cv=some false/\∀C b,p.2.lookup C=some b->PySem.W.kitOne K (.ref C) cv=some b) P.ups):RP P K mg:=
 ⟨λ_=>h1,λi C e=>by
  have hi:i<P.iV.length:=(dE.mp e).1;have hi2:i<P.cls.length:=by lia
  refine⟨P.cls[i],pV hi2,?_⟩;have:=h2.mem (P.cls[i],C) (i8 (i:=i) (by rw[List.getElem?_zip_eq_some];exact⟨pV hi2,e⟩))
  exact this,λ_=>let ⟨a,D,b,c,d⟩:=h3;⟨a,D,b,c,λC hC=>d.mem C hC⟩,λx l h=>h4.mem (x,l) h⟩
end Ev
namespace bF
open L2 Ev
def f0:Fi:=dH (st 18)
def f1:Fi:=dH (st 19)
def f2:Fi:=dH (st 21)
def f3:Fi:=dH (st 24)
def f4:Fi:=dH (st 25)
def f5:Fi:=dH (st 26)
def f6:Fi:=dH (st 27)
def f7:Fi:=dH (st 28)
def f8:Fi:=dH (st 31)
def f9:Fi:=dH (st 32)
def f10:Fi:=dH (st 34)
def f11:Fi:=dH (st 35)
def f12:Fi:=dH (st 36)
def f13:Fi:=dH (st 37)
def f14:Fi:=dH (st 38)
def f15:Fi:=dH (st 39)
def f16:Fi:=dH (st 40)
def f17:Fi:=dH (st 41)
def f18:Fi:=dH (st 42)
def f19:Fi:=dH (st 43)
def f20:Fi:=dH (st 44)
def f21:Fi:=dH (st 45)
def f22:Fi:=dH (st 46)
def f23:Fi:=dH (st 47)
def f24:Fi:=dH (st 48)
def f25:Fi:=dH (st 49)
def Ur:Fi:=dH (st 50)
noncomputable def ups:List (Str×List (Addr×Bool)):=[("NoWeb",[(37,true)]),("NoNumber",[(37,false)]),("NoTurn",[(37,false)]),("NoKind",[(37,false)]),("NoPlace",[(37,false)]),("NoTie",[(37,false)]),("NoNumbers",[(37,false)]),("NoTree",[(37,false)]),("NoCode",[(37,false)]),("NoCounts",[(37,false)]),("NoMarks",[(37,false)]),("NoText",[(37,false)]),("NoLine",[(37,false)]),("NoDeed",[(37,false)]),("TooGreat",[(37,false)]),("ValueError",[(37,true)])]
def P:Pg:=⟨[f0,f1,f2,f3,f4,f5,f6,f7,f8,f9,f10,f11,f12,f13,f14,f15,f16,f17,f18,f19,f20,f21,f22,f23,f24,f25,Ur],[("MOST_PLACES",.int 6),("MOST_COUNTS",.int 12)],["ValueError", "all", "bool", "int", "isinstance", "len", "list", "max", "min", "range", "sorted", "tuple", "zip"],["NoWeb"],true,[37], "KindError",ups⟩
theorem Tv:Gb P P.fn fns=true:=by decide +kernel
theorem fns_eq:List.zipWith (yG P) P.fn fns=P.fn.map (λfi=>bA fi.st):=by kernel_rfl
theorem nLaw:Ur.N.length=7:=rfl
theorem hevF:∀ns:List Int,ns.length<=63->∃g',(run fns fuel).b [] kk Uq.body (dh Ur.N.length [.dat (.fix (ns.map .int))])=some (.rt (.dat (.bl true)),g'):=by rw[nLaw];exact hev
theorem yS(P:Params):cH (K P)=[(nat_lit 370,iW)]:=by kernel_rfl
theorem G4(P:Params):(K P).lookup (nat_lit 370)=none:=by kernel_rfl
theorem yT(P:Params):codeOk (K P) (nat_lit 372) (nat_lit 370)=true:=by kernel_rfl
theorem L0(P:Params):GZ (K P) (nat_lit 372)=true:=by kernel_rfl
theorem Xx(P:Params):Tq (K P) (nat_lit 4) (nat_lit 370)=true:=by kernel_rfl
theorem G5(P:Params):Ht (K P) (nat_lit 37):=Tt (by kernel_rfl) (by kernel_rfl) (by kernel_rfl) (by kernel_rfl) (by kernel_rfl) (by kernel_rfl) (by kernel_rfl) (by kernel_rfl) (by kernel_rfl)
theorem vd(P:Params):fc (K P) (nat_lit 37):=by kernel_rfl
theorem G6(P:Params):uw (K P) (nat_lit 37) (nat_lit 24)=true:=by kernel_rfl
theorem sI(P:Params):fc (K P) (nat_lit 24):=by kernel_rfl
theorem G7(P:Params):fL (K P) (.ref (nat_lit 37)) [(37,true)]=true:=by kernel_rfl
theorem ve(P:Params):fL (K P) (.ref (nat_lit 49)) [(37,false)]=true:=by kernel_rfl
theorem Ax(P:Params):fL (K P) (.ref (nat_lit 61)) [(37,false)]=true:=by kernel_rfl
theorem Ay(P:Params):fL (K P) (.ref (nat_lit 73)) [(37,false)]=true:=by kernel_rfl
theorem wZ(P:Params):fL (K P) (.ref (nat_lit 85)) [(37,false)]=true:=by kernel_rfl
theorem G8(P:Params):fL (K P) (.ref (nat_lit 97)) [(37,false)]=true:=by kernel_rfl
theorem sJ(P:Params):fL (K P) (.ref (nat_lit 109)) [(37,false)]=true:=by kernel_rfl
theorem Az(P:Params):fL (K P) (.ref (nat_lit 121)) [(37,false)]=true:=by kernel_rfl
theorem Ba(P:Params):fL (K P) (.ref (nat_lit 133)) [(37,false)]=true:=by kernel_rfl
theorem vf(P:Params):fL (K P) (.ref (nat_lit 145)) [(37,false)]=true:=by kernel_rfl
theorem w6(P:Params):fL (K P) (.ref (nat_lit 157)) [(37,false)]=true:=by kernel_rfl
theorem Bb(P:Params):fL (K P) (.ref (nat_lit 169)) [(37,false)]=true:=by kernel_rfl
theorem Bc(P:Params):fL (K P) (.ref (nat_lit 181)) [(37,false)]=true:=by kernel_rfl
theorem Bd(P:Params):fL (K P) (.ref (nat_lit 193)) [(37,false)]=true:=by kernel_rfl
theorem vg(P:Params):fL (K P) (.ref (nat_lit 212)) [(37,false)]=true:=by kernel_rfl
theorem pM(P:Params):fL (K P) (.type "ValueError") [(37,true)]=true:=by kernel_rfl
end bF
open PySem PySem.W PyProof.Rows
set_option maxHeartbeats 0 in
theorem PySem.Challenge.cw_websbykind_k60_counts_known_holds : PySem.Challenge.rw_websbykind_k60_counts_known.Holds := by
 w_on
 refine PySem.W.holds_law (by decide +kernel) λsaid=>?_
 refine PySem.W.holds_open (q:=bF.qv) (loose:=[]) (Xt:=λs=>xlAt bF.qv [] s&&recOk (OpenRow.toRowW PySem.Challenge.rw_websbykind_k60_counts_known.row).records s) (XP:=XL bF.qv []) (Yf:=λs=>bF.as2.map s.heap.get?) (Ya:=λw=>(Ev.pQ 370 bF.K w.params).map λp:Nat×Obj=>some p.2) (YP:=InK (Ev.pQ 370 bF.K)) (N:=8000) bF.hl (InK.of bF.Ut) InK.keeps (λs e=>xl_of s (Bool.and_eq_true_iff.mp e).1) XL.keeps (by rfl) (by rfl) (by rfl) (λs e=>recFacts_of (Bool.and_eq_true_iff.mp e).2) (by rfl) (by first |assumption |decide +kernel) (by decide +kernel) ⟨rfl,rfl,rfl,rfl,rfl,by decide +kernel⟩ ?hw ?hc
 (case hw=>w_witness2)
 k_fill
 refine Ev.G0 (l:=PySem.Challenge.rw_websbykind_k60_counts_known) (n:=63) (k:=bF.kk+1) (x:= "_law_script") (CX:=L2.sP) (K:=bF.K) (T:=[370]) (sp:=λK=>Ev.Jk K bF.Ur.N 1 λbor g r g'=>(Ev.run bF.fns bF.fuel).b bor bF.kk bF.Uq.body g=some (.rt r,g')) rfl ⋯ rfl ⟨rfl,by decide,by decide⟩ (λw h Y=>Ev.u9 (bF.G4 _) Y) (λw h Y=>Ev.Aw (bF.G4 _) (bF.yT _) Y) ?F ?S ?C
 case F=>
  intro w mg fa h KX G hmg
  have mm:Ev.cR (L2.KOf KX) mg bF.f0/\Ev.cR (L2.KOf KX) mg bF.f1/\Ev.cR (L2.KOf KX) mg bF.f2/\Ev.cR (L2.KOf KX) mg bF.f3/\Ev.cR (L2.KOf KX) mg bF.f4/\Ev.cR (L2.KOf KX) mg bF.f5/\Ev.cR (L2.KOf KX) mg bF.f6/\Ev.cR (L2.KOf KX) mg bF.f7/\Ev.cR (L2.KOf KX) mg bF.f8/\Ev.cR (L2.KOf KX) mg bF.f9/\Ev.cR (L2.KOf KX) mg bF.f10/\Ev.cR (L2.KOf KX) mg bF.f11/\Ev.cR (L2.KOf KX) mg bF.f12/\Ev.cR (L2.KOf KX) mg bF.f13/\Ev.cR (L2.KOf KX) mg bF.f14/\Ev.cR (L2.KOf KX) mg bF.f15/\Ev.cR (L2.KOf KX) mg bF.f16/\Ev.cR (L2.KOf KX) mg bF.f17/\Ev.cR (L2.KOf KX) mg bF.f18/\Ev.cR (L2.KOf KX) mg bF.f19/\Ev.cR (L2.KOf KX) mg bF.f20/\Ev.cR (L2.KOf KX) mg bF.f21/\Ev.cR (L2.KOf KX) mg bF.f22/\Ev.cR (L2.KOf KX) mg bF.f23/\Ev.cR (L2.KOf KX) mg bF.f24/\Ev.cR (L2.KOf KX) mg bF.f25/\Ev.cR (L2.KOf KX) mg bF.Ur:=by
   refine⟨?_,?_,?_,?_,?_,?_,?_,?_,?_,?_,?_,?_,?_,?_,?_,?_,?_,?_,?_,?_,?_,?_,?_,?_,?_,?_,?_⟩ <;> (
    dsimp only[L2.KOf]
    exact Ev.Xc (by assumption) (by assumption) (by k_is) (by k_is) (by k_is) (by k_is) ⟨rfl,rfl,rfl,by decide +kernel,by decide +kernel,by decide +kernel,by decide +kernel⟩ (λ_ _ _ _ _ _ us hl=>by first | (obtain⟨_,e⟩:=Ev.Xe hl;subst e;rfl) | (obtain⟨_,_,e⟩:=Ev.Xg hl;subst e;rfl) | (obtain⟨_,_,_,e⟩:=Ev.len3 hl;subst e;rfl) | (obtain⟨_,_,_,_,e⟩:=Ev.len4 hl;subst e;rfl)) ⋯)
  obtain⟨m0,m1,m2,m3,m4,m5,m6,m7,m8,m9,m10,m11,YM,YQ,m14,m15,m16,m17,m18,m19,m20,m21,m22,m23,m24,m25,m26⟩:=mm
  have pN:Ev.Ld (L2.KOf KX) mg ("MOST_PLACES",.int 6):=by
   dsimp only[L2.KOf]
   refine' Ev.FZ KX G ?a ⋯
   (case a=>k_is)
  have pP:Ev.Ld (L2.KOf KX) mg ("MOST_COUNTS",.int 12):=by
   dsimp only[L2.KOf]
   refine' Ev.FZ KX G ?a ⋯
   (case a=>k_is)
  have sL:mg "ValueError"=none:=mg_none_of KX G (by k_is)
  have Xy:mg "all"=none:=mg_none_of KX G (by k_is)
  have Tw:mg "bool"=none:=mg_none_of KX G (by k_is)
  have Xz:mg "int"=none:=mg_none_of KX G (by k_is)
  have sM:mg "isinstance"=none:=mg_none_of KX G (by k_is)
  have XC:mg "len"=none:=mg_none_of KX G (by k_is)
  have Tz:mg "list"=none:=mg_none_of KX G (by k_is)
  have XD:mg "max"=none:=mg_none_of KX G (by k_is)
  have XF:mg "min"=none:=mg_none_of KX G (by k_is)
  have L1:mg "range"=none:=mg_none_of KX G (by k_is)
  have G9:mg "sorted"=none:=mg_none_of KX G (by k_is)
  have L5:mg "tuple"=none:=mg_none_of KX G (by k_is)
  have XH:mg "zip"=none:=mg_none_of KX G (by k_is)
  have sN:PySem.W.nsIn (L2.KOf KX) mainGlobals "NoWeb"=some (some (.ref 37)):=by dsimp only[L2.KOf];k_is
  have vh:PySem.W.nsIn (L2.KOf KX) mainGlobals "KindError"=some (some (.ref 24)):=by dsimp only[L2.KOf];k_is
  have xg:PySem.W.nsIn (L2.KOf KX) mainGlobals "NoNumber"=some (some (.ref 49)):=by dsimp only[L2.KOf];k_is
  have Hf:PySem.W.nsIn (L2.KOf KX) mainGlobals "NoTurn"=some (some (.ref 61)):=by dsimp only[L2.KOf];k_is
  have Hg:PySem.W.nsIn (L2.KOf KX) mainGlobals "NoKind"=some (some (.ref 73)):=by dsimp only[L2.KOf];k_is
  have Be:PySem.W.nsIn (L2.KOf KX) mainGlobals "NoPlace"=some (some (.ref 85)):=by dsimp only[L2.KOf];k_is
  have L7:PySem.W.nsIn (L2.KOf KX) mainGlobals "NoTie"=some (some (.ref 97)):=by dsimp only[L2.KOf];k_is
  have vj:PySem.W.nsIn (L2.KOf KX) mainGlobals "NoNumbers"=some (some (.ref 109)):=by dsimp only[L2.KOf];k_is
  have Hi:PySem.W.nsIn (L2.KOf KX) mainGlobals "NoTree"=some (some (.ref 121)):=by dsimp only[L2.KOf];k_is
  have Hj:PySem.W.nsIn (L2.KOf KX) mainGlobals "NoCode"=some (some (.ref 133)):=by dsimp only[L2.KOf];k_is
  have xq:PySem.W.nsIn (L2.KOf KX) mainGlobals "NoCounts"=some (some (.ref 145)):=by dsimp only[L2.KOf];k_is
  have Bf:PySem.W.nsIn (L2.KOf KX) mainGlobals "NoMarks"=some (some (.ref 157)):=by dsimp only[L2.KOf];k_is
  have Hl:PySem.W.nsIn (L2.KOf KX) mainGlobals "NoText"=some (some (.ref 169)):=by dsimp only[L2.KOf];k_is
  have Ho:PySem.W.nsIn (L2.KOf KX) mainGlobals "NoLine"=some (some (.ref 181)):=by dsimp only[L2.KOf];k_is
  have Hq:PySem.W.nsIn (L2.KOf KX) mainGlobals "NoDeed"=some (some (.ref 193)):=by dsimp only[L2.KOf];k_is
  have xu:PySem.W.nsIn (L2.KOf KX) mainGlobals "TooGreat"=some (some (.ref 212)):=by dsimp only[L2.KOf];k_is
  have n_b:PySem.W.nsIn (L2.KOf KX) mainGlobals "__builtins__"=some (some (.ref 4)):=by dsimp only[L2.KOf];k_is
  have lm:Ev.RP bF.P (L2.KOf KX) mg:=Ev.Xw (Ev.Tr KX G (bF.L0 _) (bF.yT _) (bF.yS _) n_b (bF.Xx _) ⋯) (.cons ⟨mg_of KX G sN,bF.vd _,bF.G5 _⟩ .nil) ⋯ ⟨by decide,24,mg_of KX G vh,bF.sI _,(.cons (bF.G6 _) .nil)⟩ (.cons (Ev.bK KX G ⋯ sN (bF.G7 _)) (.cons (Ev.bK KX G ⋯ xg (bF.ve _)) (.cons (Ev.bK KX G ⋯ Hf (bF.Ax _)) (.cons (Ev.bK KX G ⋯ Hg (bF.Ay _)) (.cons (Ev.bK KX G ⋯ Be (bF.wZ _)) (.cons (Ev.bK KX G ⋯ L7 (bF.G8 _)) (.cons (Ev.bK KX G ⋯ vj (bF.sJ _)) (.cons (Ev.bK KX G ⋯ Hi (bF.Az _)) (.cons (Ev.bK KX G ⋯ Hj (bF.Ba _)) (.cons (Ev.bK KX G ⋯ xq (bF.vf _)) (.cons (Ev.bK KX G ⋯ Bf (bF.w6 _)) (.cons (Ev.bK KX G ⋯ Hl (bF.Bb _)) (.cons (Ev.bK KX G ⋯ Ho (bF.Bc _)) (.cons (Ev.bK KX G ⋯ Hq (bF.Bd _)) (.cons (Ev.bK KX G ⋯ xu (bF.vg _)) (.cons (Ev.G3 ⋯ ⋯ ⋯ rfl (bF.pM _)) .nil))))))))))))))))
  have md:Ev.rT bF.P (L2.KOf KX) mg:=Ev.Xa (.cons m0 (.cons m1 (.cons m2 (.cons m3 (.cons m4 (.cons m5 (.cons m6 (.cons m7 (.cons m8 (.cons m9 (.cons m10 (.cons m11 (.cons YM (.cons YQ (.cons m14 (.cons m15 (.cons m16 (.cons m17 (.cons m18 (.cons m19 (.cons m20 (.cons m21 (.cons m22 (.cons m23 (.cons m24 (.cons m25 (.cons m26 .nil))))))))))))))))))))))))))) (.cons pN (.cons pP .nil)) (.cons sL (.cons Xy (.cons Tw (.cons Xz (.cons sM (.cons XC (.cons Tz (.cons XD (.cons XF (.cons L1 (.cons G9 (.cons L5 (.cons XH .nil))))))))))))) (.cons (Ev.Xd KX G sN (bF.vd _) ⋯) .nil) lm
  exact Ev.Ga (Ev.RW bF.Tv bF.fns_eq) md (i:=26) (fi:=bF.Ur) rfl rfl rfl m26 hmg
 case S=>exact λw H a ns hl hO hS=>Ev.RT bF.hevF (bF.K w.params) H a ns hl (by rw[bF.yS];exact hO) hS
 case C=>exact λ_ _ _ _ z=>z
