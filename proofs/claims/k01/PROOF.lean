import PyProof.Rows.All
import Wide.All
import OpenK.AllK
import Wide.FinOn
import Lean
import PyProof.EqAt
import PyProof.EqKinds
import PyProof.TupleCall
import PySem.Challenge.RW_websbykind_k01_webs_known
set_option Elab.async false
set_option linter.all false
set_option compiler.extract_closed false
set_option bootstrap.genMatcherCode false
set_option genSizeOf false
set_option maxHeartbeats 4000000
set_option maxRecDepth 100000
set_option autoImplicit true
open PySem PySem.Spec PyProof.Rows
open PySem.W (Frag)
noncomputable section
local macro_rules | `(⋯)=>`(by first |decide |lia |simp)
local macro_rules | `($x⁻¹)=>`(($x).heap.objs.size)
abbrev aS:=@PySem.wpAny_bind
abbrev a9:=@PySem.Heap.get?_push_of_some
abbrev bP:=@PySem.wpAny_pure
abbrev b0:=@List.mem_cons_of_mem
abbrev dA:=@List.size_toArray
abbrev dC:=@List.mem_cons_self
abbrev dE:=@List.getElem?_eq_some_iff
abbrev dL:=@List.getElem?_append_left
abbrev dS:=@List.mem_cons
abbrev eA:=@Nat.le_refl
abbrev eC:=@PySem.Heap.get?_push_size
abbrev eD:=@List.getElem?_append_right
abbrev eJ:=@Bool.and_eq_true
abbrev eM:=@List.getElem?_eq_getElem
abbrev eP:=@PySem.Heap.lt_size
abbrev eQ:=@List.length_append
abbrev eR:=@Option.bind_eq_some_iff
abbrev fA:=@Bool.false_eq_true
abbrev fI:=@if_neg
abbrev fN:=@if_pos
abbrev fR:=@Nat.lt_of_lt_of_le
abbrev gL:=@List.length_map
abbrev gN:=@List.mem_singleton
abbrev hU:=@List.getD_eq_getElem?_getD
abbrev h9:=@Array.length_toList
abbrev i3:=@List.nodup_cons
abbrev i4:=@List.getElem?_set_ne
abbrev i5:=@decide_eq_true_eq
abbrev i6:=@List.length_cons
abbrev i7:=@PySem.wpAny_holding
abbrev i8:=@List.not_mem_nil
abbrev i9:=@List.getElem?_set_self
abbrev kA:=@Nat.ne_of_lt
abbrev kS:=@Bool.false_ne_true
abbrev lL:=@PySem.wpAny_newObj_type
abbrev lS:=@List.mem_map
abbrev l4:=@Array.getElem?_eq_getElem
abbrev l5:=@Nat.le_trans
abbrev l6:=@Option.some.inj
abbrev l7:=@Nat.not_lt_zero
abbrev l8:=@List.mem_append_right
abbrev l9:=@PySem.wpAny_setState_of
abbrev mB:=@List.mem_of_getElem?
abbrev mE:=@PySem.wpAny_call_entry
abbrev mI:=@List.length_replicate
abbrev mM:=@PySem.wpAny_callSpecial?_slot
abbrev mN:=@PyProof.Rows.callWith_type1
abbrev mP:=@List.getElem?_map
abbrev nE:=@PyProof.Rows.slot_tuple_getitem
abbrev nK:=@PySem.wpAny_mono
abbrev nN:=@PySem.wpAny_truthy_bool
abbrev nS:=@of_decide_eq_true
abbrev nV:=@Nat.zero_le
abbrev n0:=@List.mem_filter
abbrev oC:=@PySem.sizeLine_eq
abbrev oD:=@PySem.wpAny_field
abbrev oI:=@PySem.Heap.get?_update_self
abbrev oP:=@List.replicate_succ
abbrev oQ:=@List.length_singleton
abbrev oS:=@List.getElem?_eq_none
abbrev oT:=@Array.getD_eq_getD_getElem?
abbrev pV:=@List.mem_range
abbrev qS:=@decide_eq_false
abbrev rV:=@List.length_take
abbrev sB:=@List.lookup_cons
abbrev sK:=@List.getElem_mem
abbrev sR:=@List.getElem?_take_of_lt
abbrev sT:=@decide_eq_true
abbrev tJ:=@Nat.lt_irrefl
abbrev tP:=@List.append_nil
abbrev tS:=@List.length_set
abbrev t0:=@PySem.W.kia_one
abbrev t5:=@List.mem_append_left
abbrev t6:=@beq_self_eq_true
abbrev t7:=@PySem.Heap.get?_update_other
abbrev t8:=@List.filterMap_cons
abbrev t9:=@Ne.symm
abbrev u4:=@List.mem_map_of_mem
abbrev u7:=@List.nodup_append
abbrev u8:=@PySem.Heap.SameBut.update
abbrev vS:=@PySem.Heap.size_push
abbrev v0:=@PySem.wpAny_seqItems
abbrev v6:=@List.pairwise_cons
abbrev wE:=@Nat.lt_succ_self
abbrev wP:=@Nat.add_sub_cancel_left
abbrev wS:=@or_false
abbrev wT:=@List.nodup_nil
abbrev xI:=@List.Perm.refl
abbrev xL:=@List.mem_append
abbrev x0:=@PySem.codeAny_builtin
abbrev x5:=@Bool.or_eq_true
abbrev yA:=@List.getElem_of_mem
abbrev yB:=@Nat.lt_of_succ_lt_succ
abbrev yY:=@Array.getElem?_eq_some_iff
abbrev y0:=@Array.perm_iff_toList_perm
abbrev y6:=@PySem.F.slot_tuple_iterator_next
abbrev y7:=@Array.getElem?_toList
abbrev y8:=@Nat.lt_or_ge
abbrev An:=@List.mem_replicate
abbrev Ap:=@PySem.Obj.data_mapFields
abbrev At:=@PySem.wpAny_setField_rec
abbrev AA:=@Bool.not_true
abbrev AB:=@List.getElem?_eq_none_iff
abbrev AC:=@Classical.byContradiction
abbrev AD:=@PySem.Around.under_plainId
abbrev AE:=@PySem.wpAny_passesOwn
abbrev AF:=@List.length_nil
abbrev AG:=@List.flatten_cons
abbrev AH:=@List.append_assoc
abbrev AI:=@Nat.lt_trichotomy
abbrev AJ:=@PySem.wpAny_typeOf
abbrev AK:=@Nat.succ_pos
abbrev AL:=@PySem.mem_of_lookup
abbrev AM:=@PyProof.Rows.F.plain_set_update_loop
abbrev AO:=@List.all_eq_true
abbrev AQ:=@PySem.wpAny_askSetting
abbrev AR:=@Bool.false_and
abbrev AS:=@Bool.and_false
abbrev AT:=@Option.map_eq_some_iff
abbrev AU:=@PySem.wpAny_Call_Name_kw
abbrev AV:=@List.zip_cons_cons
abbrev AW:=@Int.emod_lt_of_pos
abbrev AX:=@List.nil_append
abbrev AY:=@Option.map_some
abbrev AZ:=@List.take_append_drop
abbrev A4:=@List.contains_iff_mem
abbrev A5:=@Int.toNat_natCast
abbrev A6:=@PySem.Calls.call_function_entry
abbrev A7:=@List.pairwise_iff_getElem
abbrev A8:=@PySem.wpAny_isInstance
abbrev A9:=@if_true
abbrev Bi:=@List.length_reverse
abbrev Bn:=@PySem.F.args_tuple_add_2
abbrev Bz:=@Nat.succ.inj
abbrev BA:=@Nat.zero_add
abbrev BB:=@PySem.wpAny_standAt
abbrev BC:=@PySem.wpAny_pyIter_tuple
abbrev BD:=@PySem.F.entry_tuple_add
abbrev BE:=@PySem.wpAny_attempt
abbrev BF:=@PySem.F.plainAttrs_list
abbrev BH:=@PySem.wpAny_newList
abbrev BI:=@Array.Perm.refl
abbrev BM:=@of_decide_eq_false
abbrev BN:=@decide_eq_false_iff_not
abbrev BO:=@PySem.F.slot_tuple_add
abbrev BS:=@Nat.le_of_succ_le_succ
abbrev BU:=@List.reverse_cons
abbrev BY:=@Bool.eq_false_iff
abbrev B0:=@PySem.W.kitx_list
abbrev B1:=@PySem.W.kitx_dict
abbrev B2:=@List.length_range
abbrev B3:=@Nat.le_of_lt_succ
abbrev B4:=@PySem.wpAny_setField
abbrev B5:=@Nat.ne_of_gt
abbrev B7:=@Nat.add_zero
abbrev B8:=@List.set_append_right
abbrev B9:=@PySem.wpAny_forIn_list
abbrev Cc:=@List.cons_ne_nil
abbrev Cf:=@List.filter_cons
abbrev Cn:=@Nat.not_succ_le_zero
abbrev Co:=@List.range_eq_range'
abbrev CA:=@Array.mem_toList_iff
abbrev CB:=@if_false
abbrev CC:=@List.all_cons
abbrev CF:=@PySem.wpAny_onRaise
abbrev CH:=@PySem.plainId_quiet
abbrev CI:=@beq_eq_false_iff_ne
abbrev CL:=@List.of_mem_zip
abbrev CS:=@Nat.le_succ
abbrev CU:=@List.map_congr_left
abbrev C0:=@List.map_append
abbrev C1:=@Int.emod_nonneg
abbrev C2:=@Nat.le_of_lt
abbrev C3:=@PySem.codeAny_mono
abbrev C5:=@PySem.wpAny_rule
theorem nt{p:Prop}(h:false=true):p:=Bool.noConfusion h
namespace L2
def fX(s:Stmt):Arguments:=match s with
 |.FunctionDef _ a _ _ _ _ _ _ _ _=>a
 |_=>{ posonlyargs:=[],args:=[],vararg:=none,kwonlyargs:=[],kw_defaults:=[],kwarg:=none,defaults:=[]}
def bx(s:Stmt):List Stmt:=match s with
 |.FunctionDef _ _ b _ _ _ _ _ _ _=>b
 |_=>[]
def aJ(s:Stmt):Scope:=match s with
 |.FunctionDef _ _ _ _ _ _ sc _ _ _=>sc
 |_=>{ kind:=.function,names:=[],isGenerator:=false,isCoroutine:=false}
end L2
namespace Ev
open L2
noncomputable def ni(q:Addr)(K:Params->Frag)(P:Params):Frag:=(q,{ cls:=.none,data:=.fields #[]})::K P
section
open PySem.W
noncomputable def El(tb:String->Option Builtin)(p:Program)(w:World)(n₀:Nat)(ann:Option Value):Nat->SharedT->Thread->Option SharedT
 | 0,_,_=>none
 |n+1,s,t=>match through t with
  |true=>some s
  |false=>match stepOk n₀ ann t with
   |false=>none
   |true=>match stepT (denote tb) p w s t with
    |some (s',t')=>El tb p w n₀ ann n s' t'
    |none=>none
theorem vh{tb:String->Option Builtin}{p:Program}{w:World}{n₀:Nat}{ann:Option Value}:∀{n:Nat}{s s':SharedT}{t:Thread},El tb p w n₀ ann n s t=some s'->topRun tb p w n₀ ann n s.abs t=some s'.abs
 | 0,_,_,_,h=>by cases h
 |n+1,s,s',t,h=>by
  unfold El at h;unfold topRun;cases he:through t with
  |true=>rw[he]at h;cases h;rfl
  |false=>
   rw[he]at h;cases hk:stepOk n₀ ann t with
   |false=>rw[hk]at h;cases h
   |true=>
    rw[hk]at h;cases hs:stepT (denote tb) p w s t with
    |none=>rw[hs]at h;cases h
    |some r=>obtain⟨s₂,t₂⟩:=r;rw[hs]at h;rw[stepT_spec hs];exact vh h
noncomputable def Jj:BT->Nat->List Obj->BT
 |t,_,[]=>t
 |t,n,o::os=>Jj (t.ins n o) (n+1) os
noncomputable def yZ(P:Params):BT:=Jj .nil 0 (boot_heap P).objs.toList
theorem y9(P:Params):absHeap (yZ P) 11 (boot_heap P).life=boot_heap P:=by kernel_rfl
noncomputable abbrev AN (P:Params):Option Value:=(boot_heap P).nsMap mainGlobals "__annotations__"
theorem wL{p q:Program}{loose:List Str}{Xt:Shared->Bool}{α:Type}{Yf:Shared->α}{Ya:World->α}{N:Nat}{ann:Option Value}
  (e:opening p=plainProg p.main.scope.names) (hN:Nat.ble 600 N=true) (f:∀s,fenceModules? p s=some s) (ha:∀P,AN P=ann)
  (run:∀(w:World) (os:OsState),(El treeTable p w 11 ann N ⟨yZ w.params,11,(boot_heap w.params).life,#[],boot_drawn,boot_toks,os⟩ (topStub p)).map (λs=>
   (staticsOk (importedModules p.main.body) (boot_heap w.params) s.abs.heap&&namesBound p s.abs.heap&&gensDone s.abs&&laidKept (boot_heap w.params) s.abs.heap,openSeen q loose (importedModules p.main.body) Xt true s.abs,Yf s.abs))=some (true,openGood q loose,Ya w)):LeftO p q loose Xt Yf Ya N:=λw=>by
 obtain⟨⟨h,gs,d,k,os⟩,e1,e2⟩:=AT.mp (boot_open e hN f w);obtain⟨rfl,rfl,rfl,rfl⟩:h=boot_heap w.params/\gs=Array.mk []/\d=boot_drawn/\k=boot_toks:=by simpa using e2
 obtain⟨s,r1,r2⟩:=AT.mp (run w os);obtain⟨l1,l2,l3⟩:_/\_/\_:=by simpa only[Prod.mk.injEq]using r2
 have r:=vh r1;unfold openEnds;rw[e1];show (topFrom treeTable p w N _).map _=_;have z0:((boot_heap w.params).isNs mainGlobals&&(Array.mk []:Array GenState).size==0)=true:=by kernel_rfl
 have t:topFrom treeTable p w N ⟨boot_heap w.params,Array.mk [],boot_drawn,boot_toks,os⟩=some s.abs:=by
  unfold topFrom;dsimp only;rw[z0];have r':topRun treeTable p w (boot_heap w.params).objs.size ((boot_heap w.params).nsMap mainGlobals "__annotations__") N ⟨boot_heap w.params,Array.mk [],boot_drawn,boot_toks,os⟩ (topStub p)=some s.abs:=by
   have:=ha w.params;unfold AN at this;rw[this];have z:SharedT.abs ⟨yZ w.params,11,(boot_heap w.params).life,#[],boot_drawn,boot_toks,os⟩=⟨boot_heap w.params,Array.mk [],boot_drawn,boot_toks,os⟩:=by unfold SharedT.abs;dsimp only;rw[y9]
   rw[z]at r;exact r
  rw[r'];show (match staticsOk (importedModules p.main.body) (boot_heap w.params) s.abs.heap&&namesBound p s.abs.heap&&gensDone s.abs&&laidKept (boot_heap w.params) s.abs.heap with |true=>_ |false=>_)=_
  rw[l1]
 rw[t];exact congrArg some (Prod.ext l2 l3)
theorem Qm(P:Params):AN P=some (.ref 6):=by kernel_rfl
end
end Ev
namespace L1
open L2 Ev
def st(j:Nat):Stmt:=PySem.Challenge.pw_websbykind_k01_webs_known.main.body.getD j (.Pass ⟨0,0,0,0⟩)
noncomputable def de(P:Params)(s:Str)(t:Tok)(v:Value):DictEntry:=⟨PyData.keyHash P s,.str s t,v⟩
noncomputable def co(vs:Array Value):Obj:=⟨.type "code",none,.fields vs,#[]⟩
noncomputable def fo(j:Nat)(n:Str)(kV doc pm:Value)(an:Option Addr)(dG ct:Value):Obj:=⟨.type "function",none,.func (PySem.W.fnOf n n (fX (st j)) (bx (st j)) (aJ (st j)) .none kV doc pm an dG ct),#[]⟩
noncomputable def ce(n:Str)(b a s r t u:Nat):Obj:=⟨.type "type",none,.cls ⟨n,[.ref b],[.ref a,.ref b,.type "ValueError",.type "Exception",.type "BaseException",.type "object"],s,n,true,[],[],false,none,false⟩,#[some (.ref r),none,some (.str n t),some (.str n u),some (.builtin "ValueError.__new__"),some (.bool true)]⟩
def cd(n:Str)(t l p r:Nat)(x y z:Value)(u:Nat):Obj:=co #[.str n t,.str n (t+1),.str "/claim/cut.py" (t+2),.int l 0,.int p 0,.int 0 0,.int 0 0,.int 3 0,.ref r,.bool true,.int 181 0,.ref (r+1),.none,x,y,z,.int u 0,.int l 0,.str "/claim/cut.py" (u+1)]
def fq(j:Nat)(n:Str)(m:Value)(c:Addr):Obj:=fo j n .none .none m none (.ref c) .none
def m0:Value:=.str "websbykind.whole" 187
def m1:Value:=.str "websbykind.webs" 205
def m2:Value:=.str "law_websbykind_k01_webs_known" 227
def K(P:Params):Frag:=
 (nat_lit 3,⟨.type "dict",none,.dict #[de P "__name__" 165 (.str "law_websbykind_k01_webs_known" 227),de P "__doc__" 166 (.none),de P "__package__" 167 (.none),de P "__loader__" 168 (.builtin "__main__.__loader__#opaque"),de P "__spec__" 169 (.none),de P "__annotations__" 170 (.ref 6),de P "__builtins__" 171 (.ref 4),de P "__file__" 173 (.str "/claim/cut.py" 172),de P "__cached__" 174 (.none),de P "is_whole" 195 (.ref 21),de P "is_within" 204 (.ref 28),de P "MOST_PLACES" 208 (.int 6 207),de P "is_web" 214 (.ref 33),de P "is_tie" 220 (.ref 38),de P "is_rising" 226 (.ref 43),de P "_law_cell_at" 236 (.ref 50),de P "_law_state" 245 (.ref 57),de P "_law_take" 255 (.ref 64),de P "_law_pairs" 261 (.ref 69),de P "_law_mixed_row" 271 (.ref 76),de P "_law_web" 277 (.ref 81),de P "_law_whole" 284 (.ref 88),de P "_law_is_web" 292 (.ref 95),de P "_law_bad_web" 300 (.ref 102),de P "_law_same" 306 (.ref 107),de P "_law_bent" 321 (.ref 114),de P "law" 327 (.ref 119)] 27,#[]⟩) ::
 (nat_lit 4,⟨.type "module",(some 0),.plain,#[]⟩) ::
 (nat_lit 20,cd "is_whole" 189 2 1 15 (.ref 17) (.ref 18) (.ref 19) 193) ::
 (nat_lit 21,fq 1 "is_whole" m0 20) ::
 (nat_lit 27,cd "is_within" 196 4 3 22 (.ref 24) (.ref 25) (.ref 26) 202) ::
 (nat_lit 28,fq 2 "is_within" m0 27) ::
 (nat_lit 32,cd "is_web" 209 8 1 29 .none .none (.ref 31) 212) ::
 (nat_lit 33,fq 5 "is_web" m1 32) ::
 (nat_lit 37,cd "is_tie" 215 15 2 34 .none .none (.ref 36) 218) ::
 (nat_lit 38,fq 6 "is_tie" m1 37) ::
 (nat_lit 42,cd "is_rising" 221 19 1 39 .none .none (.ref 41) 224) ::
 (nat_lit 43,fq 7 "is_rising" m1 42) ::
 (nat_lit 49,cd "_law_cell_at" 229 22 2 44 (.ref 46) (.ref 47) (.ref 48) 234) ::
 (nat_lit 50,fq 9 "_law_cell_at" m2 49) ::
 (nat_lit 56,cd "_law_state" 237 26 2 51 (.ref 53) (.ref 54) (.ref 55) 243) ::
 (nat_lit 57,fq 10 "_law_state" m2 56) ::
 (nat_lit 63,cd "_law_take" 246 31 2 58 (.ref 60) (.ref 61) (.ref 62) 253) ::
 (nat_lit 64,fq 11 "_law_take" m2 63) ::
 (nat_lit 68,cd "_law_pairs" 256 40 1 65 .none .none (.ref 67) 259) ::
 (nat_lit 69,fq 12 "_law_pairs" m2 68) ::
 (nat_lit 75,cd "_law_mixed_row" 262 45 2 70 (.ref 72) (.ref 73) (.ref 74) 269) ::
 (nat_lit 76,fq 13 "_law_mixed_row" m2 75) ::
 (nat_lit 80,cd "_law_web" 272 51 2 77 .none .none (.ref 79) 275) ::
 (nat_lit 81,fq 14 "_law_web" m2 80) ::
 (nat_lit 87,cd "_law_whole" 278 65 1 82 (.ref 84) (.ref 85) (.ref 86) 282) ::
 (nat_lit 88,fq 15 "_law_whole" m2 87) ::
 (nat_lit 94,cd "_law_is_web" 285 67 1 89 (.ref 91) (.ref 92) (.ref 93) 290) ::
 (nat_lit 95,fq 16 "_law_is_web" m2 94) ::
 (nat_lit 101,cd "_law_bad_web" 293 78 1 96 (.ref 98) (.ref 99) (.ref 100) 298) ::
 (nat_lit 102,fq 17 "_law_bad_web" m2 101) ::
 (nat_lit 106,cd "_law_same" 301 83 2 103 .none .none (.ref 105) 304) ::
 (nat_lit 107,fq 18 "_law_same" m2 106) ::
 (nat_lit 113,cd "_law_bent" 307 91 2 108 (.ref 110) (.ref 111) (.ref 112) 319) ::
 (nat_lit 114,fq 19 "_law_bent" m2 113) ::
 (nat_lit 118,cd "law" 322 102 1 115 .none .none (.ref 117) 325) ::
 (nat_lit 119,fq 20 "law" m2 118)::[]
noncomputable def as:List Addr:=nat_lit 3::nat_lit 4::nat_lit 20::nat_lit 21::nat_lit 27::nat_lit 28::nat_lit 32::nat_lit 33::nat_lit 37::nat_lit 38::nat_lit 42::nat_lit 43::nat_lit 49::nat_lit 50::nat_lit 56::nat_lit 57::nat_lit 63::nat_lit 64::nat_lit 68::nat_lit 69::nat_lit 75::nat_lit 76::nat_lit 80::nat_lit 81::nat_lit 87::nat_lit 88::nat_lit 94::nat_lit 95::nat_lit 101::nat_lit 102::nat_lit 106::nat_lit 107::nat_lit 113::nat_lit 114::nat_lit 118::nat_lit 119::[]
def as2:List Addr:=nat_lit 116::as
noncomputable def qv:Program:={ PySem.Challenge.pw_websbykind_k01_webs_known with main:={ PySem.Challenge.pw_websbykind_k01_webs_known.main with body:=[st 1,st 2,st 4,st 5,st 6,st 7,st 9,st 10,st 11,st 12,st 13,st 14,st 15,st 16,st 17,st 18,st 19,st 20]}}
theorem Qn(P:Params):as2=(ni 116 K P).map (·.1):=by kernel_rfl
theorem op:PySem.W.opening PySem.Challenge.rw_websbykind_k01_webs_known.row.prog=PySem.W.plainProg PySem.Challenge.rw_websbykind_k01_webs_known.row.prog.main.scope.names:=by kernel_rfl
theorem fe:∀s,PySem.fenceModules? PySem.Challenge.rw_websbykind_k01_webs_known.row.prog s=some s:=λs=>by kernel_rfl
theorem hl:PySem.W.LeftO PySem.Challenge.rw_websbykind_k01_webs_known.row.prog qv [] (λs=>PySem.W.xlAt qv [] s&&PySem.W.recOk (PySem.W.OpenRow.toRowW PySem.Challenge.rw_websbykind_k01_webs_known.row).records s) (λs=>as2.map s.heap.get?) (λw=>(ni 116 K w.params).map λp:Nat×Obj=>some p.2) 8000:=wL op ⋯ fe Qm λw os=>by kernel_rfl
end L1
namespace Ev
open PySem PySem.W
end Ev
namespace L2
abbrev Key:=Sum Int Str
noncomputable def nj:Key->Value->Bool
 |.inl k,v=>Value.isInt k v
 |.inr x,v=>Value.isStrOf x v
noncomputable def Ve(w:World):Key->Int
 |.inl k=>hashInt k
 |.inr x=>hashStr w x
theorem aY:∀{k:Key}{v:Value},nj k v=true->(∃i t,k=Sum.inl i/\v=Value.int i t)\/(∃x t,k=Sum.inr x/\v=Value.str x t)
 |.inl i,v,h=>by
  obtain⟨t,e⟩:=Value.isInt_shape (k:=i) (v:=v) h;exact .inl ⟨i,t,rfl,e⟩
 |.inr x,v,h=>by
  obtain⟨t,e⟩:=Value.isStrOf_shape (x:=x) (v:=v) h;exact .inr ⟨x,t,rfl,e⟩
theorem wM(i:Int)(t:Tok):nj (.inl i) (.int i t)=true:=by simp[nj,Value.isInt]
theorem wN(x:Str)(t:Tok):nj (.inr x) (.str x t)=true:=by simp[nj,Value.isStrOf]
theorem JW(a b:Int):decide ((Sum.inl a:Key)=Sum.inl b)=(a==b):=by
 by_cases e:a=b
 . subst e;simp
 .
  have h : ¬ (Sum.inl a:Key)=Sum.inl b:=λq=>e (Sum.inl.inj q)
  rw[qS h];exact (CI.mpr e).symm
theorem JX(a b:Str):decide ((Sum.inr a:Key)=Sum.inr b)=decide (a=b):=by
 by_cases e:a=b
 . subst e;simp
 .
  have h : ¬ (Sum.inr a:Key)=Sum.inr b:=λq=>e (Sum.inr.inj q)
  rw[qS h,qS e]
theorem JZ(a:Int)(b:Str):decide ((Sum.inl a:Key)=Sum.inr b)=false:=qS (λq=>nomatch q)
theorem J0(a:Str)(b:Int):decide ((Sum.inr a:Key)=Sum.inl b)=false:=qS (λq=>nomatch q)
def eG(prog:Program)(w:World):PySem.KeyKind prog w Key where
 is:=nj
 hash:=Ve w
 inj:=λv a b ha hb=>by
  rcases aY ha with ⟨i,t,rfl,rfl⟩ |⟨x,t,rfl,rfl⟩
  .
   rcases aY hb with ⟨j,u,rfl,e⟩ |⟨y,u,rfl,e⟩
   . injection e with e1 _;rw[e1]
   . exact nomatch e
  .
   rcases aY hb with ⟨j,u,rfl,e⟩ |⟨y,u,rfl,e⟩
   . exact nomatch e
   . injection e with e1 _;rw[e1]
 byValue:=λk v h=>by
  rcases aY h with ⟨i,t,rfl,rfl⟩ |⟨x,t,rfl,rfl⟩ <;> rfl
 pyHash:=λhv h=>by
  rcases aY hv with ⟨i,t,rfl,rfl⟩ |⟨x,t,rfl,rfl⟩
  . exact wpAny_pyHash_int h
  . exact wpAny_pyHash_str h
 eqBool:=λhu hv h=>by
  rcases aY hu with ⟨i,t,rfl,rfl⟩ |⟨x,t,rfl,rfl⟩
  .
   rcases aY hv with ⟨j,u,rfl,rfl⟩ |⟨y,u,rfl,rfl⟩
   . rw[JW]at h;exact wpAny_eqBool_int h
   . rw[JZ]at h;exact SeqAt.EqAt.int_str i t y u _ _ _ _ h
  .
   rcases aY hv with ⟨j,u,rfl,rfl⟩ |⟨y,u,rfl,rfl⟩
   . rw[J0]at h;exact SeqAt.EqAt.str_int x t j u _ _ _ _ h
   . rw[JX]at h;exact wpAny_eqBool_str h
 «strs»:=λk x t v h=>by
  rcases aY h with ⟨i,u,rfl,e⟩ |⟨y,u,rfl,e⟩
  . exact nomatch e
  . injection e with e1 _;subst e1;cases v <;> rfl
theorem qD(prog:Program)(w:World)(i:Int)(t:Tok):(eG prog w).is (.inl i) (.int i t)=true:=wM i t
theorem qE(prog:Program)(w:World)(x:Str)(t:Tok):(eG prog w).is (.inr x) (.str x t)=true:=wN x t
inductive V where
 |non |bl (b:Bool) |int (i:Int) |str (x:Str) |Jk (b:Array UInt8) |flt (b:UInt64) |ref (a:Addr) |ty (n:String)
 deriving DecidableEq
noncomputable def RelV:V->Value->Prop
 |.non,u=>u=Value.none
 |.bl b,u=>u=Value.bool b
 |.int i,u=>∃t,u=Value.int i t
 |.str x,u=>∃t,u=Value.str x t
 |.Jk b,u=>∃t,u=Value.bytes b t
 |.flt b,u=>∃t,u=Value.float b t
 |.ref a,u=>u=Value.ref a
 |.ty n,u=>u=Value.type n
abbrev Vals:List V->List Value->Prop:=Paired RelV
theorem Vals.length{xs:List V}{us:List Value}(r:Vals xs us):xs.length=us.length:=Paired.length r
theorem Vals.get:∀{xs:List V}{us:List Value}{i:Nat}{x:V},Vals xs us->xs[i]?=some x->∃u,us[i]?=some u/\RelV x u
 |_,_,_,_,.nil,e=>by simp at e
 |_,_,0,_,.cons r _,e=>by simp at e;subst e;exact⟨_,rfl,r⟩
 |_,_,i+1,x,.cons _ t,e=>by
  obtain⟨u,h1,h2⟩:=Vals.get (i:=i) (x:=x) t (by simpa using e)
  exact⟨u,by simpa using h1,h2⟩
theorem Vals.set{x:V}{u:Value}(r:RelV x u):∀{xs:List V}{us:List Value} (i:Nat),Vals xs us->Vals (xs.set i x) (us.set i u)
 |_,_,_,.nil=>.nil
 |_,_,0,.cons _ t=>.cons r t
 |_,_,i+1,.cons q t=>.cons q (Vals.set r i t)
theorem Vals.append:∀{xs ys:List V}{us ws:List Value},Vals xs us->Vals ys ws->Vals (xs++ys) (us++ws)
 |_,_,_,_,.nil,s=>s
 |_,_,_,_,.cons r t,s=>.cons r (Vals.append t s)
theorem Vals.take:∀{xs:List V}{us:List Value} (n:Nat),Vals xs us->Vals (xs.take n) (us.take n)
 |_,_,0,_=>.nil
 |_,_,_+1,.nil=>.nil
 |_,_,n+1,.cons r t=>.cons r (Vals.take n t)
theorem Vals.drop:∀{xs:List V}{us:List Value} (n:Nat),Vals xs us->Vals (xs.drop n) (us.drop n)
 |_,_,0,r=>r
 |_,_,_+1,.nil=>.nil
 |_,_,n+1,.cons _ t=>Vals.drop n t
def Qo:Option V->Option Value->Prop
 |some v,some u=>RelV v u
 |none,none=>True
 |_,_=>False
def KV{κ:Type}:List (κ×V)->List (κ×Value)->Prop:=Paired λ(p:κ×V) (q:κ×Value)=>p.1=q.1/\RelV p.2 q.2
noncomputable def kV:Key->V
 |.inl i=>.int i
 |.inr x=>.str x
inductive HO where
 |lst (xs:List V)
 |tup (xs:List V)
 |dK (cG:List (Key×V)) |dT (cG:List (List Key×V))
 |set (S:Int->Bool) (n:Nat)
 |ins (C dx:Addr) (fs:List (Str×V))
 |own (x:Addr)
 |xd (fs:List (Str×V))
 |met (f x:Addr)
 |Vf (lo hi:Int)
 |yR (o:Obj) (u:HO)
 |yS (ps:Array Value)
 |ext (φ:Heap->Prop)
abbrev Hp:=Addr->Option HO
noncomputable def upd(H:Hp)(a:Addr)(o:HO):Hp:=λb=>if b=a then some o else H b
theorem aD:upd H a o a=some o:=by unfold upd;rw[fN rfl]
theorem az(h:b≠a):upd H a o b=H b:=by unfold upd;rw[fI h]
theorem aG{H:Hp}{a b:Addr}{o:HO}(h:H a=some o)(h':H b=none):a≠b:=by intro e;subst e;rw[h]at h';cases h'
def dI(h:Heap)(a:Addr)(its:Array Value):Prop:=∃o,h.get? a=some o/\(o.cls=.type "tuple" /\∃n,o.data=.seq its n)/\o.dict=none
theorem dI.tup{h:Heap}{a:Addr}{its:Array Value}(x:dI h a its):IsTup h a its:=let ⟨o,e,c,_⟩:=x;⟨o,e,c⟩
theorem dI.new(h:Heap)(its:Array Value):dI (h.push { cls:=.type "tuple",data:=.seq its}) h.objs.size its:=⟨_,eC _ rfl,⟨rfl,_,rfl⟩,rfl⟩
section
variable(P:Program)(w:World)
def cB(H:Hp)(h:Heap)(a:Addr):HO->Prop
 |.lst xs=>xs.length<=sizeLine/\∃(its:List Value) (n:Nat),Vals xs its/\h.get? a=some { cls:=.type "list",data:=.seq its.toArray n}
 |.tup xs=>xs.length<=sizeLine/\∃its:List Value,Vals xs its/\dI h a its.toArray
 |.dK cG=>cG.length<=sizeLine/\(a==sysModules)=false/\∃vs,KV cG vs/\h.DictOf (eG P w) a vs
 |.dT cG=>cG.length<=sizeLine/\(a==sysModules)=false/\∃xs:List (List Key×Addr×Value),
   Paired (λ(p:List Key×V) (q:List Key×Addr×Value)=>p.1=q.1/\H q.2.1=some (.tup (p.1.map kV))/\RelV p.2 q.2.2) cG xs/\
   ∃o es ep,h.get? a=some o/\o.ExactDict/\o.data=.dict es ep/\es.toList=xs.map (entryOfKey (tupleKind (eG P w)))/\(xs.map (·.1)).Nodup
 |.set S n=>h.SetOf (intKind P w) a S n
 |.ins C dx fs=>H dx=some (.own a)/\fs.length<=1000/\dx≠a/\h.get? a=some (PySem.W.instObj C dx)/\
   ∃mA,h.Ns1 dx mA/\(∀f,Qo (fs.lookup f) (mA f))/\PySem.Within mA (fs.map (·.1))
 |.own _=>∃o,h.get? a=some o
 |.xd fs=>∃mA,h.Ns1 a mA/\∀f,Qo (fs.lookup f) (mA f)
 |.Vf lo hi=>∃t u v,h.get? a=some { cls:=.type "range",data:=.fields #[.int lo t,.int hi u,.int 1 v]}
 |.yR o u=>h.get? a=some o/\cB H h a u
 |.yS ps=>h.get? a=some { cls:=.none,data:=.fields ps}
 |.met f x=>h.get? a=some (PySem.W.methodObj (.ref f) (.ref x))
 |.ext φ=>φ h/\(∃o,h.get? a=some o)/\∀h1 h2:Heap,φ h1->(∀o,h1.get? a=some o->h2.get? a=some o)->φ h2
def kB(H:Hp)(h:Heap):Prop:=∀a o,H a=some o->cB P w H h a o
end
section
variable{P:Program}{w:World}{H H':Hp}{h h':Heap}{a:Addr}{o:HO}
theorem cB.lt(x:cB P w H h a o):a<h.objs.size:=by
 cases o with
 |lst xs=>obtain⟨_,_,_,_,e⟩:=x;exact eP e
 |tup xs=>obtain⟨_,_,_,_,e,_⟩:=x;exact eP e
 |dK cG=>obtain⟨_,_,_,_,o,_,_,e,_⟩:=x;exact eP e
 |dT cG=>obtain⟨_,_,_,_,o,_,_,e,_⟩:=x;exact eP e
 |set S n=>obtain⟨o,_,_,_,e,_⟩:=x;exact eP e
 |ins C dx fs=>obtain⟨_,_,_,e,_⟩:=x;exact eP e
 |own y=>obtain⟨_,e⟩:=x;exact eP e
 |xd fs=>obtain⟨_,⟨_,_,_,e,_⟩,_⟩:=x;exact eP e
 |Vf lo hi=>obtain⟨_,_,_,e⟩:=x;exact eP e
 |yR ob u=>obtain⟨e,_⟩:=x;exact eP e
 |yS ps=>exact eP (show h.get? a=some _ from x)
 |met f y=>exact eP (show h.get? a=some _ from x)
 |ext φ=>obtain⟨_,⟨_,e⟩,_⟩:=x;exact eP e
theorem Paired.J1{α β:Type}{F G:α->β->Prop}:∀{l₁:List α}{l₂:List β},Paired F l₁ l₂->(∀a b,F a b->G a b)->Paired G l₁ l₂
 |_,_,.nil,_=>.nil
 |_,_,.cons r t,f=>.cons (f _ _ r) (Paired.J1 t f)
theorem cB.stay(x:cB P w H h a o)(k:∀b u,(b=a\/H b=some (.own a))->h.get? b=some u->h'.get? b=some u)
  (ho:∀b,H b=some (.own a)->H' b=some (.own a)) (ht:∀b xs,H b=some (.tup xs)->H' b=some (.tup xs)):cB P w H' h' a o:=by
 induction o with
 |lst xs=>obtain⟨z,its,n,r,e⟩:=x;exact⟨z,its,n,r,k _ _ (.inl rfl) e⟩
 |tup xs=>obtain⟨z,its,r,ob,e,c⟩:=x;exact⟨z,its,r,ob,k _ _ (.inl rfl) e,c⟩
 |dK cG=>obtain⟨z,y,vs,r,ob,es,ep,e,c⟩:=x;exact⟨z,y,vs,r,ob,es,ep,k _ _ (.inl rfl) e,c⟩
 |dT cG=>obtain⟨z,y,xs,r,ob,es,ep,e,c⟩:=x;exact⟨z,y,xs,Paired.J1 r λp q z=>⟨z.1,ht _ _ z.2.1,z.2.2⟩,ob,es,ep,k _ _ (.inl rfl) e,c⟩
 |set S n=>obtain⟨ob,es,ep,t,e,c⟩:=x;exact⟨ob,es,ep,t,k _ _ (.inl rfl) e,c⟩
 |ins C dx fs=>obtain⟨d,z,ne,e,mA,⟨od,es,ep,e2,c⟩,r⟩:=x;exact⟨ho _ d,z,ne,k _ _ (.inl rfl) e,mA,⟨od,es,ep,k _ _ (.inr d) e2,c⟩,r⟩
 |own y=>obtain⟨ob,e⟩:=x;exact⟨ob,k _ _ (.inl rfl) e⟩
 |xd fs=>obtain⟨mA,⟨od,es,ep,e,c⟩,r⟩:=x;exact⟨mA,⟨od,es,ep,k _ _ (.inl rfl) e,c⟩,r⟩
 |Vf lo hi=>obtain⟨t,u,v,e⟩:=x;exact⟨t,u,v,k _ _ (.inl rfl) e⟩
 |yR ob u ih=>obtain⟨e,q⟩:=x;exact⟨k _ _ (.inl rfl) e,ih q⟩
 |yS ps=>have e:h.get? a=some { cls:=.none,data:=.fields ps}:=x;show h'.get? a=some { cls:=.none,data:=.fields ps};exact k a _ (.inl rfl) e
 |met f y=>have e:h.get? a=some (PySem.W.methodObj (.ref f) (.ref y)):=x;show h'.get? a=some (PySem.W.methodObj (.ref f) (.ref y));exact k a _ (.inl rfl) e
 |ext φ=>obtain⟨p,⟨o,e⟩,st⟩:=x;exact⟨st _ _ p λo q=>k _ _ (.inl rfl) q,⟨o,k _ _ (.inl rfl) e⟩,st⟩
theorem kB.lt(x:kB P w H h)(e:H a=some o):a<h.objs.size:=(x a o e).lt
theorem kB.fresh(x:kB P w H h)(e:h.objs.size<=a):H a=none:=by
 cases q:H a with
 |none=>rfl
 |some u=>exact absurd (fR (x.lt q) e) (tJ _)
theorem kB.kept(x:kB P w H h)(k:∀b u,h.get? b=some u->h'.get? b=some u):kB P w H h':=λa o e=>
 (x a o e).stay (λb u _ q=>k b u q) (λ_ q=>q) λ_ _ q=>q
theorem kB.laid(x:kB P w H h)(k:∀b u,h.get? b=some u->h'.get? b=some u)(hp:h.objs.size<=a)(new:cB P w (upd H a o) h' a o):kB P w (upd H a o) h':=λb u e=>by
 have hn:=x.fresh hp;by_cases hb:b=a
 . subst hb;rw[aD]at e;cases e;exact new
 . rw[az hb]at e;exact (x b u e).stay (λc v _ q=>k c v q) (λc q=>by rw[az (aG q hn)];exact q) λc xs q=>by rw[az (aG q hn)];exact q
end
def Rd(H:Hp)(a:Addr)(u:HO):Prop:=H a=some u\/∃o,H a=some (.yR o u)
theorem Rd.ok{P:Program}{w:World}{H:Hp}{h:Heap}{a:Addr}{u:HO}(r:Rd H a u)(x:kB P w H h):cB P w H h a u:=by
 rcases r with r |⟨o,r⟩
 . exact x a u r
 . obtain⟨_,q⟩:=x a _ r;exact q
noncomputable def T4:Option HO->Prop
 |some (.lst _)=>True
 |some (.dK _)=>True
 |some (.dT _)=>True
 |some (.set _ _)=>True
 |some (.ins _ _ _)=>True
 |some (.ext _)=>True
 |_=>False
section
variable{P:Program}{w:World}{H:Hp}{h h':Heap}{x e:Addr}{o':HO}
theorem kB.write(ok:kB P w H h)(mu:T4 (H x))(he:e=x\/H e=some (.own x))(k:∀b u,b≠e->h.get? b=some u->h'.get? b=some u)(PX:∃u,h'.get? e=some u)
  (new:cB P w (upd H x o') h' x o'):kB P w (upd H x o') h':=λb u q=>by
 have Qp:∀c y,H c=some (.own y)->c≠x:=λc y r z=>by subst z;rw[r]at mu;exact mu
 have Vg:∀c xs,H c=some (.tup xs)->c≠x:=λc xs r z=>by subst z;rw[r]at mu;exact mu
 by_cases hb:b=x
 . subst hb;rw[aD]at q;cases q;exact new
 .
  rw[az hb]at q;by_cases J2:b=e
  .
   have q':H b=some (.own x):=by
    rcases he with z |z
    . exact absurd (J2.trans z) hb
    . rw[J2];exact z
   rw[q]at q';cases q';obtain⟨v,hv⟩:=PX;exact⟨v,by rw[J2];exact hv⟩
  .
   refine (ok b u q).stay (λc v hc r=>k c v ?_ r) (λc r=>by rw[az (Qp c b r)];exact r) λc xs r=>by rw[az (Vg c xs r)];exact r
   rcases hc with rfl |hc
   . exact J2
   .
    rintro rfl;rcases he with z |z
    . exact Qp c b hc z
    . rw[hc]at z;cases z;exact hb rfl
end
structure Un(fs ex:List Addr)(H H':Hp)(h h':Heap):Prop where
 keep:∀b o,h.get? b=some o->H b=none->b∉fs->b∉ex->h'.get? b=some o
 slot:∀b o,h.get? b=some o->H b=none->b∈fs->b∉ex->∃sl,h'.get? b=some { o with slots:=sl}
 free:∀b o,h.get? b=some o->H b=none->b∉ex->H' b=none
 there:∀b o,h.get? b=some o->b∉ex->∃o',h'.get? b=some o'
 tups:∀b xs,H b=some (.tup xs)->H' b=some (.tup xs)
 oM:∀b o u,H b=some (.yR o u)->H' b=some (.yR o u)
 oN:∀b ps,H b=some (.yS ps)->∃more,H' b=some (.yS (ps++more))
section
variable{fs fs' ex ex':List Addr}{H H1 H2:Hp}{h h1 h2 h':Heap}{a x e:Addr}{o:HO}
theorem Un.any(u:Un fs ex H H1 h h1){b:Addr}{ob:Obj}(q:h.get? b=some ob)(n:H b=none)(hx:b∉ex):∃sl,h1.get? b=some { ob with slots:=sl}:=by
 by_cases hb:b∈fs
 . exact u.slot b ob q n hb hx
 . exact⟨ob.slots,u.keep b ob q n hb hx⟩
theorem Un.kept(k:∀b u,h.get? b=some u->h'.get? b=some u):Un fs ex H H h h':=
 ⟨λb ob q _ _ _=>k b ob q,λb ob q _ _ _=>⟨ob.slots,k b ob q⟩,λ_ _ _ n _=>n,λb ob q _=>⟨ob,k b ob q⟩,λ_ _ q=>q,λ_ _ _ q=>q,λ_ ps q=>⟨#[],by rw[q];simp⟩⟩
theorem Un.refl:Un fs ex H H h h:=Un.kept λ_ _ q=>q
theorem Un.laid(k:∀b u,h.get? b=some u->h'.get? b=some u)(hp:h.objs.size<=a)(hn:H a=none):Un fs ex H (upd H a o) h h' where
 keep:=λb u q _ _ _=>k b u q
 slot:=λb u q _ _ _=>⟨u.slots,k b u q⟩
 free:=λb u q n _=>by rw[az (kA (fR (eP q) hp))];exact n
 there:=λb u q _=>⟨u,k b u q⟩
 tups:=λb xs q=>by rw[az (aG q hn)];exact q
 oM:=λb u xs q=>by rw[az (aG q hn)];exact q
 oN:=λb ps q=>⟨#[],by rw[az (aG q hn),q];simp⟩
theorem Un.write(mu:T4 (H x))(he:e=x\/H e=some (.own x))(k:∀b u,b≠e->h.get? b=some u->h'.get? b=some u)(PX:∃u,h'.get? e=some u):Un fs ex H (upd H x o) h h':=by
 have hx:∀b,H b=none->b≠x:=λb n z=>by subst z;rw[n]at mu;exact mu
 have hb:∀b,H b=none->b≠e:=λb n z=>by
  subst z;rcases he with r |r
  . exact hx b n r
  . rw[n]at r;cases r
 have hm:∀b u,H b=some u->¬ T4 (some u)->b≠x:=λb u q nm z=>by subst z;rw[q]at mu;exact nm mu
 refine⟨λb u q n _ _=>k b u (hb b n) q,λb u q n _ _=>⟨u.slots,k b u (hb b n) q⟩,λb u q n _=>by rw[az (hx b n)];exact n,λb u q _=>?_,
  λb xs q=>by rw[az (hm b _ q λz=>z)];exact q,λb u xs q=>by rw[az (hm b _ q λz=>z)];exact q,λb ps q=>⟨#[],by rw[az (hm b _ q λz=>z),q];simp⟩⟩
 by_cases J2:b=e
 . subst J2;exact PX
 . exact⟨u,k b u J2 q⟩
end
noncomputable def T5(h:Heap)(H:Hp):List Addr:=(List.range h.objs.size).filter λa=>(H a).isSome
def oO(h:Heap)(H:Hp):Heap:=PySem.W.hideAll h (T5 h H)
theorem wO(h:Heap)(H:Hp):(oO h H).objs.size=h.objs.size:=PySem.W.hideAll_size _ _
theorem za(e:h.get? b=some o)(n:H b=none):(oO h H).get? b=some o:=
 PySem.W.hideAll_get _ e λhm=>by
  have q:(H b).isSome=true:=(n0.mp hm).2;rw[n]at q;simp at q
theorem Em(e:(oO h H).get? b=some o):h.get? b=some o/\H b=none:=by
 have e':h.get? b=some o:=PySem.W.of_hideAll (T5 h H) e;refine⟨e',?_⟩;cases q:H b with
 |none=>rfl
 |some x=>
  have hm:b∈T5 h H:=n0.mpr ⟨pV.mpr (eP e'),by simp[q]⟩
  have z:(oO h H).get? b=none:=PySem.W.hideAll_none (T5 h H) hm;rw[z]at e;cases e
noncomputable def En(g h:Heap)(L:Addr):List (Addr×Obj):=(List.range h.objs.size).filterMap λa=>if a=L\/(g.get? a).isSome=true then none else (h.get? a).map λo=>(a,o)
def rest(g h:Heap)(L d:Addr):List (Addr×Obj):=(En g h L).filter λp=>decide (p.1≠d)
structure Mod(K:Frag)(mg:Str->Option Value)(base:Heap):Prop where
 T6:K.In base
 glob:base.Ns mainGlobals mg
 blt:∃mb,base.Ns builtinsNs mb/\∀x:Str,x≠ "__name__" ->mb x=bootBuiltins x
 nolimit:base.NoLimit
structure Cx where
 prog:Program
 w:World
 K:Frag
 mg:Str->Option Value
 base:Heap
 A:Around
 N:List Str
 s₀:Shared
 H₀:Hp
 env:Env
 outer:List Env
 stack:List Env
 ex:List Addr
 fn:Str->Bool
 calm:Bool
 pn:List (Addr×Obj)
 xe:Value->Shared->Prop
def frs(l:List Env):List Addr:=l.filterMap (·.frame)
abbrev Cx.fs(X:Cx):List Addr:=frs X.outer
def Ea(sc:Scope)(x:Str):Prop:=sc.names.lookup x=some .local\/sc.names.lookup x=some .cell\/sc.names.lookup x=some .free
def Loc(sc:Scope)(x:Str):Prop:=sc.names.lookup x=some .local\/sc.names.lookup x=some .cell
def Look(env:Env)(h:Heap)(m:Str->Option Value)(x:Str)(u:Value):Prop:=
 (env.kindOf x=some .local/\m x=some u)\/((env.kindOf x=some .cell\/env.kindOf x=some .free)/\∃c,env.cells.lookup x=some c/\h.IsCell c (some u))
structure Cx.Ok(X:Cx):Prop where
 mod:Mod X.K X.mg X.base
 kind:X.env.scope.kind=.function
 glob:X.env.globals=mainGlobals
 blt:X.env.builtins=builtinsNs
 above:X.s₀⁻¹<=X.env.locals
 inj:∀x y c,X.env.cells.lookup x=some c->X.env.cells.lookup y=some c->x=y
 has:∀x,(X.env.kindOf x=some .cell\/X.env.kindOf x=some .free)->∃c,X.env.cells.lookup x=some c
 P0:∀x c,X.fn x=true->X.env.cells.lookup x=some c->X.s₀⁻¹<=c
 hd:X.calm=true->X.A.handled=none
 frames:X.A.frames=some X.stack
 stk:X.stack=X.outer\/(X.stack=X.env::X.outer/\X.env.frame=some X.env.locals)
 Qq:∀b∈X.ex,b≠X.env.locals/\∀x c,X.env.cells.lookup x=some c->c≠b
 bs:∀b o,X.base.get? b=some o->X.s₀.heap.get? b=some o/\X.H₀ b=none
 Eo:X.base.objs.size<=X.s₀⁻¹
 tL:∀b o,X.base.get? b=some o->b∉X.ex
 wQ:∀b∈X.ex,b∉X.fs
 jP:X.s₀.heap.FunFrames X.base X.outer
 J3:∀b∈X.fs,X.H₀ b=none
structure Inv(X:Cx)(ah:List (Addr×Obj))(σ:List (Option V))(H:Hp)(s:Shared):Prop where
 ok:X.Ok
 os:s.os=X.s₀.os
 bare:AllBare s.gens
 base:Un X.fs X.ex X.H₀ H X.s₀.heap s.heap
 loc:∃m,s.heap.Ns X.env.locals m/\∀(i:Nat) (x:Str) (v:V),X.N[i]?=some x->σ[i]?=some (some v)->Ea X.env.scope x->∃u,RelV v u/\Look X.env s.heap m x u
 cell:∀x c,X.env.cells.lookup x=some c->∃v,s.heap.IsCell c v
 free:H X.env.locals=none
 gH:∀x c,X.env.cells.lookup x=some c->H c=none
 pin:∀p∈X.pn++ah,s.heap.get? p.1=some p.2/\H p.1=none/\p.1≠X.env.locals/\p.1∉X.fs/\∀v,p.2.data≠.cell v
 hok:kB X.prog X.w H s.heap
 len:σ.length=X.N.length
section
variable{X:Cx}{ah:List (Addr×Obj)}{σ:List (Option V)}{H H':Hp}{s:Shared}{h':Heap}
theorem Cx.Ok.Vh(ok:X.Ok)(e:X.base.get? b=some o):b∉X.fs:=λhb=>by
 have:=(ok.jP.mem hb).1;rw[e]at this;cases this
theorem Inv.bs(I:Inv X ah σ H s):∀b o,X.base.get? b=some o->s.heap.get? b=some o/\H b=none:=λb o e=>
 ⟨I.base.keep b o (I.ok.bs b o e).1 (I.ok.bs b o e).2 (I.ok.Vh e) (I.ok.tL b o e),I.base.free b o (I.ok.bs b o e).1 (I.ok.bs b o e).2 (I.ok.tL b o e)⟩
theorem Inv.bk(I:Inv X ah σ H s):∀b o,X.base.get? b=some o->s.heap.get? b=some o:=λb o e=>(I.bs b o e).1
theorem Inv.mod(I:Inv X ah σ H s):Mod X.K X.mg X.base:=I.ok.mod
theorem Inv.qF(I:Inv X ah σ H s):X.K.In s.heap:=I.ok.mod.T6.keeps I.bk
theorem Inv.lt(I:Inv X ah σ H s):X.env.locals<s⁻¹:=let ⟨_,hn,_⟩:=I.loc;hn.lt
theorem Inv.sz(I:Inv X ah σ H s):X.s₀⁻¹<=s⁻¹:=l5 I.ok.above (C2 I.lt)
theorem Inv.Vi(I:Inv X ah σ H s)(h:s⁻¹<=a):a∉X.fs:=λhb=>by
 obtain⟨_,o,ho,_⟩:=I.ok.jP.mem hb;exact absurd (fR (eP ho) (l5 I.sz h)) (tJ _)
theorem Inv.J4(I:Inv X ah σ H s):∀x c,X.env.cells.lookup x=some c->c≠X.env.locals:=λx c e z=>by
 obtain⟨v,o,ho,hd⟩:=I.cell x c e;obtain⟨m,⟨o',es,ep,ho',hd',_⟩,_⟩:=I.loc;rw[z,ho']at ho;cases ho;rw[hd']at hd;cases hd
theorem Inv.jP(I:Inv X ah σ H s):s.heap.FunFrames X.base X.outer:=by
 have all:∀(l:List Env),(∀b∈frs l,b∈X.fs)->X.s₀.heap.FunFrames X.base l->s.heap.FunFrames X.base l:=by
  intro l
  induction l with
  |nil=>intro _ _;trivial
  |cons env r ih=>
   intro hs hl;obtain⟨hk,⟨L,o,hf,hn,ho,hd⟩,hr⟩:=hl;have hL:L∈X.fs:=hs L (by unfold frs;rw[t8,hf];exact dC)
   obtain⟨sl,e⟩:=I.base.slot L o ho (I.ok.J3 L hL) hL λz=>I.ok.wQ L z hL
   exact⟨hk,⟨L,_,hf,hn,e,hd⟩,ih (λb hb=>hs b (by unfold frs;rw[t8,hf];exact b0 _ hb)) hr⟩
 exact all X.outer (λ_ hb=>hb) I.ok.jP
theorem Inv.stack(I:Inv X ah σ H s):s.heap.FunFrames X.base X.stack:=by
 rcases I.ok.stk with e |⟨e,hf⟩
 . rw[e];exact I.jP
 .
  rw[e];obtain⟨m,hn,_⟩:=I.loc;refine .cons (by rw[I.ok.kind];decide) hf hn ?_ I.jP
  exact Heap.get?_none_of_le (l5 I.ok.Eo I.ok.above)
theorem Inv.tM(I:Inv X ah σ H s):∀b∈frs X.stack,b∈X.env.locals::X.fs:=λb hb=>by
 rcases I.ok.stk with e |⟨e,hf⟩
 . rw[e]at hb;exact b0 _ hb
 . rw[e]at hb;unfold frs at hb;rw[t8,hf]at hb;exact hb
theorem Inv.vj(I:Inv X ah σ H s):∀b∈frs X.stack,H b=none:=λb hb=>by
 rcases dS.mp (I.tM b hb)with e |hb
 . rw[e];exact I.free
 . obtain⟨_,o,ho,_⟩:=I.ok.jP.mem hb;exact I.base.free b o ho (I.ok.J3 b hb) λz=>I.ok.wQ b z hb
theorem Inv.step{g':Array GenState}{t':Nat}{d':Drawn}{ch:List Addr}(I:Inv X ah σ H s)
  (hch:∀b∈ch,(b∈X.ex\/X.s₀⁻¹<=b)/\b≠X.env.locals/\(∀x c,X.env.cells.lookup x=some c->c≠b)/\∀p∈X.pn++ah,p.1≠b)
  (keep:∀b o,b≠X.env.locals->b∉X.fs->b∉ch->s.heap.get? b=some o->H b=none->h'.get? b=some o)
  (slot:∀b o,b≠X.env.locals->b∈X.fs->b∉ch->s.heap.get? b=some o->H b=none->∃sl,h'.get? b=some { o with slots:=sl}) (free:∀b o,b∉ch->s.heap.get? b=some o->H b=none->H' b=none)
  (there:∀b o,b∉ch->s.heap.get? b=some o->∃o',h'.get? b=some o')
  (tups:∀b xs,H b=some (.tup xs)->H' b=some (.tup xs)) (oM:∀b o u,H b=some (.yR o u)->H' b=some (.yR o u)) (oN:∀b ps,H b=some (.yS ps)->∃more,H' b=some (.yS (ps++more)))
  (ns:∀m,s.heap.Ns X.env.locals m->h'.Ns X.env.locals m) (hok:kB X.prog X.w H' h') (hg:AllBare g') :
  Inv X ah σ H' { s with heap:=h',gens:=g',drawn:=d',toks:=t'}:=by
 have Xv:∀b o,X.s₀.heap.get? b=some o->b≠X.env.locals:=λb o e=>kA (fR (eP e) I.ok.above)
 have T7:∀b o,X.s₀.heap.get? b=some o->b∉X.ex->b∉ch:=λb o e hx hb=>by
  rcases (hch b hb).1 with z |z
  . exact hx z
  . exact absurd (fR (eP e) z) (tJ _)
 have cellK:∀x c,X.env.cells.lookup x=some c->∀v,s.heap.IsCell c v->h'.IsCell c v:=λx c e v ⟨o,ho,hd⟩=>by
  have Qs:c∉ch:=λz=>(hch c z).2.2.1 x c e rfl
  by_cases hc:c∈X.fs
  . obtain⟨sl,q⟩:=slot c o (I.J4 x c e) hc Qs ho (I.gH x c e);exact⟨_,q,hd⟩
  . exact⟨o,keep c o (I.J4 x c e) hc Qs ho (I.gH x c e),hd⟩
 refine⟨I.ok,I.os,hg,⟨λb o e n hb hx=>?_,λb o e n hb hx=>?_,λb o e n hx=>?_,λb o e hx=>?_,λb xs e=>tups b xs (I.base.tups b xs e),λb o xs e=>oM b o xs (I.base.oM b o xs e),λb ps e=>?_⟩,?_,λx c e=>?_,?_,λx c e=>?_,λp hp=>?_,hok,I.len⟩
 . exact keep b o (Xv b o e) hb (T7 b o e hx) (I.base.keep b o e n hb hx) (I.base.free b o e n hx)
 . obtain⟨sl,e1⟩:=I.base.slot b o e n hb hx;obtain⟨Xw,e2⟩:=slot b _ (Xv b o e) hb (T7 b o e hx) e1 (I.base.free b o e n hx);exact⟨Xw,e2⟩
 . obtain⟨o',e1⟩:=I.base.there b o e hx;exact free b o' (T7 b o e hx) e1 (I.base.free b o e n hx)
 . obtain⟨o',e1⟩:=I.base.there b o e hx;exact there b o' (T7 b o e hx) e1
 . obtain⟨m1,e1⟩:=I.base.oN b ps e;obtain⟨m2,e2⟩:=oN b _ e1;exact⟨m1++m2,by rw[e2,Array.append_assoc]⟩
 .
  obtain⟨m,hn,hl⟩:=I.loc;refine⟨m,ns m hn,λi x v e1 e2 e3=>?_⟩
  obtain⟨u,r,l⟩:=hl i x v e1 e2 e3;refine⟨u,r,?_⟩;rcases l with l |⟨k,c,e,z⟩
  . exact .inl l
  . exact .inr ⟨k,c,e,cellK x c e _ z⟩
 . obtain⟨v,z⟩:=I.cell x c e;exact⟨v,cellK x c e v z⟩
 . obtain⟨m,⟨o,_,_,ho,_⟩,_⟩:=I.loc;exact free _ o (λz=>(hch _ z).2.1 rfl) ho I.free
 . obtain⟨v,o,ho,hd⟩:=I.cell x c e;exact free c o (λz=>(hch c z).2.2.1 x c e rfl) ho (I.gH x c e)
 .
  obtain⟨e,n,ne,nf,d⟩:=I.pin p hp;have Qs:p.1∉ch:=λz=>(hch p.1 z).2.2.2 p hp rfl
  exact⟨keep p.1 p.2 ne nf Qs e n,free p.1 p.2 Qs e n,ne,nf,d⟩
theorem Inv.un{t':Nat}(I:Inv X ah σ H s)(u:Un X.fs [] H H' s.heap h')(hok:kB X.prog X.w H' h'):Inv X ah σ H' { s with heap:=h',toks:=t'}:=by
 obtain⟨m,⟨o,es,ep,ho,r⟩,_⟩:=id I.loc;obtain⟨sl,hL⟩:=u.any ho I.free ⋯;exact I.step (g':=s.gens) (d':=s.drawn) (ch:=[]) (λ_ z=>nomatch z) (λb o _ hb _ e n=>u.keep b o e n hb ⋯) (λb o _ hb _ e n=>u.slot b o e n hb ⋯) (λb o _ e n=>u.free b o e n ⋯) (λb o _ e=>u.there b o e ⋯) u.tups u.oM u.oN (λm' hm=>by
  obtain⟨o',es',qG,ho',r'⟩:=hm;rw[ho]at ho';cases ho';exact⟨_,es',qG,hL,r'⟩) hok I.bare
theorem Inv.call{g':Array GenState}{t':Nat}{d':Drawn}{ch:List Addr}(I:Inv X ah σ H s)(u:Un (frs X.stack) ch H H' s.heap h')(hok:kB X.prog X.w H' h')(hg:AllBare g')
  (hch:∀b∈ch,(b∈X.ex\/X.s₀⁻¹<=b)/\b≠X.env.locals/\(∀x c,X.env.cells.lookup x=some c->c≠b)/\∀p∈X.pn++ah,p.1≠b) :
  Inv X ah σ H' { s with heap:=h',gens:=g',drawn:=d',toks:=t'}:=by
 obtain⟨m,⟨o,es,ep,ho,r⟩,_⟩:=id I.loc;obtain⟨sl,hL⟩:=u.any ho I.free λz=>(hch _ z).2.1 rfl
 exact I.step (ch:=ch) hch (λb o hL hb hc e n=>u.keep b o e n (λz=>(dS.mp (I.tM b z)).elim hL hb) hc) (λb o _ _ hc e n=>u.any e n hc) (λb o hc e n=>u.free b o e n hc) (λb o hc e=>u.there b o e hc) u.tups u.oM u.oN (λm' hm=>by
  obtain⟨o',es',qG,ho',r'⟩:=hm;rw[ho]at ho';cases ho';exact⟨_,es',qG,hL,r'⟩) hok hg
theorem Inv.turned{t':Nat}{it:Addr}(I:Inv X ah σ H s)(k:∀b o,b≠it->s.heap.get? b=some o->h'.get? b=some o)(hn:H it=none)(hL:it≠X.env.locals)
  (h1:it∈X.ex\/X.s₀⁻¹<=it) (h2:∀x c,X.env.cells.lookup x=some c->c≠it) (h3:∀p∈X.pn++ah,p.1≠it):Inv X ah σ H { s with heap:=h',toks:=t'}:=by
 have Xx:∀b u,H b=some u->b≠it:=λb u e z=>by rw[z,hn]at e;cases e
 refine I.step (g':=s.gens) (d':=s.drawn) (ch:=[it]) (λb hb=>?_) (λb o _ _ hc e _=>k b o (λz=>hc (by simp[z])) e) (λb o _ _ hc e _=>⟨o.slots,k b o (λz=>hc (by simp[z])) e⟩) (λ_ _ _ _ n=>n)
  (λb o hc e=>⟨o,k b o (λz=>hc (by simp[z])) e⟩) (λ_ _ e=>e) (λ_ _ _ e=>e) (λb ps e=>⟨#[],by rw[e];simp⟩) (λm hm=>?_) (λb u e=>?_) I.bare
 .
  have e:b=it:=by simpa using hb
  subst e;exact⟨h1,hL,h2,h3⟩
 . obtain⟨o,es,ep,ho,r⟩:=hm;exact⟨o,es,ep,k _ o (t9 hL) ho,r⟩
 .
  refine (I.hok b u e).stay (λc v hc q=>k c v ?_ q) (λ_ q=>q) λ_ _ q=>q
  rcases hc with z |z
  . rw[z];exact Xx b u e
  . exact Xx c _ z
theorem Inv.tok(I:Inv X ah σ H s)(t:Nat):Inv X ah σ H { s with toks:=t}:=I.un (h':=s.heap) (t':=t) Un.refl I.hok
theorem Inv.kept{t':Nat}(I:Inv X ah σ H s)(k:∀b u,s.heap.get? b=some u->h'.get? b=some u):Inv X ah σ H { s with heap:=h',toks:=t'}:=I.un (Un.kept k) (I.hok.kept k)
theorem Inv.laid{a:Addr}{o:HO}{t':Nat}(I:Inv X ah σ H s)(k:∀b u,s.heap.get? b=some u->h'.get? b=some u)(hp:s⁻¹<=a)(new:cB X.prog X.w (upd H a o) h' a o) :
  Inv X ah σ (upd H a o) { s with heap:=h',toks:=t'}:=I.un (Un.laid k hp (I.hok.fresh hp)) (I.hok.laid k hp new)
theorem Inv.write(I:Inv X ah σ H s)(mu:T4 (H x))(he:e=x\/H e=some (.own x))(k:∀b u,b≠e->s.heap.get? b=some u->h'.get? b=some u)(PX:∃u,h'.get? e=some u)
  (new:cB X.prog X.w (upd H x o) h' x o):Inv X ah σ (upd H x o) { s with heap:=h',toks:=t'}:=I.un (Un.write mu he k PX) (I.hok.write mu he k PX new)
theorem Inv.vm(I:Inv X ah σ H s)(h:∀p∈Qt,s.heap.get? p.1=some p.2/\H p.1=none/\p.1≠X.env.locals/\p.1∉X.fs/\∀v,p.2.data≠.cell v):Inv X Qt σ H s:=
 ⟨I.ok,I.os,I.bare,I.base,I.loc,I.cell,I.free,I.gH,λp hp=>(xL.mp hp).elim (λz=>I.pin p (t5 _ z)) (h p),I.hok,I.len⟩
theorem qH{N:List Str}(hN:N.Nodup){i j:Nat}{x:Str}(a:N[i]?=some x)(b:N[j]?=some x):i=j:=by obtain⟨h1,e1⟩:=dE.mp a;obtain⟨h2,e2⟩:=dE.mp b;exact (List.getElem_inj hN).mp (e1.trans e2.symm)
theorem nk{M:Model}{A:Around}{E:Value->Shared->Prop}{i:Nat}{x:Str}{v:V}{u:Value}{Q:Unit->Shared->Prop}(I:Inv X ah σ H s)(hN:X.N.Nodup)(hi:X.N[i]?=some x)(hx:Loc X.env.scope x)(r:RelV v u)
  (h:∀s',Inv X ah (σ.set i (some v)) H s'->(∃a,Heap.SameBut a s.heap s'.heap/\(a=X.env.locals\/X.env.cells.lookup x=some a))->Q () s') (hf:X.fn x=true\/X.env.scope.names.lookup x=some .local:=by first |exact .inl rfl |exact .inr rfl |assumption):wpAny M A (storeName X.env x u) Q E s:=by
 obtain⟨m,hn,hl⟩:=id I.loc;have hcls:(X.env.scope.kind==.class||(X.env.scope.kind==.module&&X.env.locals != X.env.globals))=false:=by rw[I.ok.kind];rfl
 have Qu:i<σ.length:=by rw[I.len];exact (dE.mp hi).1
 have J4:=I.J4;have tracked:∀{a:Addr}{h':Heap},(∃o,s.heap.get? a=some o/\H a=none)->Heap.SameBut a s.heap h'->kB X.prog X.w H h':=λ{a h'} ha hs b ob e=>by
  obtain⟨_,_,hfree⟩:=ha;refine (I.hok b ob e).stay (λc w' hc q=>(hs.2 c ?_).trans q) (λ_ q=>q) λ_ _ q=>q
  rintro rfl;rcases hc with rfl |hc
  . rw[hfree]at e;cases e
  . rw[hfree]at hc;cases hc
 rcases hx with hk |hk
 .
  refine wpAny_storeName_local hk hn (λh' hn' hs=>?_) hcls
  obtain⟨oL,_,_,T8,_⟩:=id hn;refine h _ ⟨I.ok,I.os,I.bare,⟨λb o e n hb hx=>?_,λb o e n hb hx=>?_,I.base.free,λb o e hx=>?_,I.base.tups,I.base.oM,I.base.oN⟩,⟨_,hn',λj y v' e1 e2 e3=>?_⟩,λy c e=>?_,I.free,I.gH,λp hp=>?_,tracked ⟨oL,T8,I.free⟩ hs,by simpa using I.len⟩ ⟨_,hs,.inl rfl⟩
  . exact (hs.2 b (kA (fR (eP e) I.ok.above))).trans (I.base.keep b o e n hb hx)
  . obtain⟨sl,e1⟩:=I.base.slot b o e n hb hx;exact⟨sl,(hs.2 b (kA (fR (eP e) I.ok.above))).trans e1⟩
  . obtain⟨o',e1⟩:=I.base.there b o e hx;exact⟨o',(hs.2 b (kA (fR (eP e) I.ok.above))).trans e1⟩
  .
   by_cases hj:j=i
   . subst hj;rw[hi]at e1;cases e1;rw[i9 Qu]at e2;cases e2;exact⟨u,r,.inl ⟨hk,by simp⟩⟩
   .
    rw[i4 (t9 hj)]at e2;obtain⟨u',r',q⟩:=hl j y v' e1 e2 e3;refine⟨u',r',?_⟩;rcases q with ⟨k,e⟩ |⟨k,c,e,z⟩
    .
     refine .inl ⟨k,?_⟩;have:y≠x:=λe=>hj (qH hN e1 (e▸hi))
     simp[this,e]
    . exact .inr ⟨k,c,e,z.sameBut hs (J4 y c e)⟩
  . obtain⟨w',z⟩:=I.cell y c e;exact⟨w',z.sameBut hs (J4 y c e)⟩
  . obtain⟨e,n,ne,nf,d⟩:=I.pin p hp;exact⟨(hs.2 p.1 ne).trans e,n,ne,nf,d⟩
 .
  have hfn:X.fn x=true:=by
   rcases hf with z |z
   . exact z
   . rw[z]at hk;cases hk
  obtain⟨c,hc⟩:=I.ok.has x (.inl hk);obtain⟨w',z⟩:=I.cell x c hc;refine wpAny_storeName_cell I.ok.kind hk hc z (λh' hc' hs=>?_)
  obtain⟨oc,hoc,Vj⟩:=id z;refine h { s with heap:=h'} ⟨I.ok,I.os,I.bare,⟨λb o e n hb hx=>?_,λb o e n hb hx=>?_,I.base.free,λb o e hx=>?_,I.base.tups,I.base.oM,I.base.oN⟩,⟨m,hn.sameBut hs (t9 (J4 x c hc)),λj y v' e1 e2 e3=>?_⟩,λy c' e=>?_,I.free,I.gH,λp hp=>?_,tracked ⟨oc,hoc,I.gH x c hc⟩ hs,by simpa using I.len⟩ ⟨c,hs,.inr hc⟩
  . exact (hs.2 b (kA (fR (eP e) (I.ok.P0 x c hfn hc)))).trans (I.base.keep b o e n hb hx)
  . obtain⟨sl,e1⟩:=I.base.slot b o e n hb hx;exact⟨sl,(hs.2 b (kA (fR (eP e) (I.ok.P0 x c hfn hc)))).trans e1⟩
  . obtain⟨o',e1⟩:=I.base.there b o e hx;exact⟨o',(hs.2 b (kA (fR (eP e) (I.ok.P0 x c hfn hc)))).trans e1⟩
  .
   by_cases hj:j=i
   . subst hj;rw[hi]at e1;cases e1;rw[i9 Qu]at e2;cases e2;exact⟨u,r,.inr ⟨.inl hk,c,hc,hc'⟩⟩
   .
    rw[i4 (t9 hj)]at e2;obtain⟨u',r',q⟩:=hl j y v' e1 e2 e3;refine⟨u',r',?_⟩;rcases q with q |⟨k,c',e,z'⟩
    . exact .inl q
    . refine .inr ⟨k,c',e,z'.sameBut hs ?_⟩;rintro rfl;exact hj (qH hN e1 (I.ok.inj _ _ _ e hc▸hi))
  .
   by_cases hcc:c'=c
   . subst hcc;exact⟨_,hc'⟩
   . obtain⟨w2,z2⟩:=I.cell y c' e;exact⟨w2,z2.sameBut hs hcc⟩
  . obtain⟨e,n,ne,nf,d⟩:=I.pin p hp;refine⟨(hs.2 p.1 ?_).trans e,n,ne,nf,d⟩;intro q;rw[q,hoc]at e;have q':oc=p.2:=l6 e;exact d w' (by rw[<- q'];exact Vj)
theorem iD{M:Model}{A:Around}{E:Value->Shared->Prop}{i:Nat}{x:Str}{v:V}{u:Value}{Q:Unit->Shared->Prop}(I:Inv X ah σ H s)(hN:X.N.Nodup)(hi:X.N[i]?=some x)(hx:Loc X.env.scope x)(r:RelV v u)
  (h:∀s',Inv X ah (σ.set i (some v)) H s'->Q () s') (hf:X.fn x=true\/X.env.scope.names.lookup x=some .local:=by first |exact .inl rfl |exact .inr rfl |assumption):wpAny M A (storeName X.env x u) Q E s:=
 nk I hN hi hx r (λs' I' _=>h s' I') hf
theorem Inv.call'(I:Inv X ah σ H s)(ho:s'.os=s.os)(u:Un (frs X.stack) ch H H' s.heap s'.heap)(hok:kB X.prog X.w H' s'.heap)(hg:AllBare s'.gens)
  (hch:∀b∈ch,(b∈X.ex\/X.s₀⁻¹<=b)/\b≠X.env.locals/\(∀x c,X.env.cells.lookup x=some c->c≠b)/\∀p∈X.pn++ah,p.1≠b):Inv X ah σ H' s':=by
 obtain⟨h',g',d',t',o'⟩:=s';have e:o'=s.os:=ho;subst e;exact I.call (g':=g') (t':=t') (d':=d') u hok hg hch
end
abbrev XK:=Value->Option Addr->Hp->Prop
abbrev St:=List (Option V)
abbrev VK:=V->Hp->Prop
abbrev TE:=St->Hp->VK->Prop
abbrev TT:=St->Hp->(Bool->Hp->Prop)->Prop
abbrev TA:=St->Hp->(List V->Hp->Prop)->Prop
structure Ends where
 nx:St->Hp->Prop
 rt:VK
 bk:St->Hp->Prop:=λ_ _=>False
 ct:St->Hp->Prop:=λ_ _=>False
abbrev TS:=Ends->St->Hp->Prop
def EP(X:Cx)(ah:List (Addr×Obj))(σ:St)(Q:VK)(u:Value)(s':Shared):Prop:=∃v H',Inv X ah σ H' s'/\RelV v u/\Q v H'
def TP(X:Cx)(ah:List (Addr×Obj))(σ:St)(Q:Bool->Hp->Prop)(b:Bool)(s':Shared):Prop:=∃H',Inv X ah σ H' s'/\Q b H'
def AP(X:Cx)(ah:List (Addr×Obj))(σ:St)(Q:List V->Hp->Prop)(us:List Value)(s':Shared):Prop:=∃vs H',Inv X ah σ H' s'/\Vals vs us/\Q vs H'
def SP(X:Cx)(ah:List (Addr×Obj))(D:Ends)(f:Flow)(s':Shared):Prop:=
 match f with
 |.next=>∃σ' H',Inv X ah σ' H' s'/\D.nx σ' H'
 |.brk=>∃σ' H',Inv X ah σ' H' s'/\D.bk σ' H'
 |.cont=>∃σ' H',Inv X ah σ' H' s'/\D.ct σ' H'
 |.ret u=>∃v σ' H',Inv X ah σ' H' s'/\RelV v u/\D.rt v H'
def PE(X:Cx)(e:Expr)(t:TE):Prop:=
 ∀(ah:List (Addr×Obj)) (s:Shared) (σ:St) (H:Hp) (Q:VK),Inv X ah σ H s->t σ H Q->wpAny (model X.prog X.w) X.A (eval e X.env) (EP X ah σ Q) X.xe s
def PT(X:Cx)(e:Expr)(t:TT):Prop:=
 ∀(ah:List (Addr×Obj)) (s:Shared) (σ:St) (H:Hp) (Q:Bool->Hp->Prop),Inv X ah σ H s->t σ H Q->wpAny (model X.prog X.w) X.A (isTrue e X.env (eval e X.env)) (TP X ah σ Q) X.xe s
def PW(X:Cx)(e:Expr)(t:TT):Prop:=
 ∀(whole:Sem Value) (ah:List (Addr×Obj)) (s:Shared) (σ:St) (H:Hp) (Q:Bool->Hp->Prop),Inv X ah σ H s->t σ H Q->wpAny (model X.prog X.w) X.A (isTrue e X.env whole) (TP X ah σ Q) X.xe s
theorem PW.pt{X:Cx}{e:Expr}{t:TT}(h:PW X e t):PT X e t:=h _
def PA(X:Cx)(es:List Expr)(t:TA):Prop:=
 ∀(pos:Pos) (ah:List (Addr×Obj)) (s:Shared) (σ:St) (H:Hp) (Q:List V->Hp->Prop),Inv X ah σ H s->t σ H Q->wpAny (model X.prog X.w) X.A (spliced (backTo pos (starEach es X.env))) (AP X ah σ Q) X.xe s
def PS(X:Cx)(st:Stmt)(t:TS):Prop:=
 ∀(ah:List (Addr×Obj)) (s:Shared) (σ:St) (H:Hp) (D:Ends),Inv X ah σ H s->t D σ H->wpAny (model X.prog X.w) X.A (exec st X.env) (SP X ah D) X.xe s
def qI(X:Cx)(st:List Stmt)(t:TS):Prop:=
 ∀(ah:List (Addr×Obj)) (s:Shared) (σ:St) (H:Hp) (D:Ends),Inv X ah σ H s->t D σ H->wpAny (model X.prog X.w) X.A (execs st X.env) (SP X ah D) X.xe s
theorem bI{α:Type}{t:Sem α}{Q Q':α->Shared->Prop}{M:Model}{A:Around}{E:Value->Shared->Prop}{s:Shared}(h:wpAny M A t Q E s)(hQ:∀a s,Q a s->Q' a s):wpAny M A t Q' E s:=nK h hQ λ_ _ x=>x
section
variable{X:Cx}
theorem bin{a b:Expr}{ta tb:TE}(ha:PE X a ta)(hb:PE X b tb){ah:List (Addr×Obj)}{s:Shared}{σ:St}{H:Hp}{R:V->V->Hp->Prop}(I:Inv X ah σ H s)(h:ta σ H λx H1=>tb σ H1 λy H2=>R x y H2)
  {α:Type}{Q:α->Shared->Prop}{f:Value->Value->Sem α}
  (hf:∀v u s2 x y H2,Inv X ah σ H2 s2->RelV x v->RelV y u->R x y H2->wpAny (model X.prog X.w) X.A (f v u) Q X.xe s2) :
  wpAny (model X.prog X.w) X.A (eval a X.env) (λv s₁=>wpAny (model X.prog X.w) X.A (eval b X.env) (λu s₂=>wpAny (model X.prog X.w) X.A (f v u) Q X.xe s₂) X.xe s₁) X.xe s:=by
 refine bI (ha ah s σ H _ I h) λv s1 ⟨x,H1,I1,r1,q1⟩=>?_
 refine bI (hb ah s1 σ H1 _ I1 q1) λu s2 ⟨y,H2,I2,r2,q2⟩=>?_
 exact hf v u s2 x y H2 I2 r1 r2 q2
def Vk(i:Nat):TE:=λσ H Q=>∃v,σ[i]?=some (some v)/\Q v H
def tC(v:V):TE:=λ_ H Q=>Q v H
theorem je(hN:X.N[i]?=some x)(hv:Ea X.env.scope x)(hd:(x==("__debug__":Str))=false:=by decide)(cM:(x==("__classdict__":Str))=false:=by decide):PE X (.Name x pos) (Vk i):=by
 intro ah s σ H Q I h;obtain⟨v,e,h⟩:=h;obtain⟨m,hn,hl⟩:=I.loc;obtain⟨u,r,l⟩:=hl i x v hN e hv;have fin:EP X ah σ Q u s:=⟨v,H,I,r,h⟩;rcases l with ⟨hk,hm⟩ |⟨hk,c,hc,hcell⟩
 . exact wpAny_Name (wpAny_loadName_local I.ok.kind hk hn hm fin) hd
 .
  rcases hk with hk |hk
  . exact wpAny_Name (wpAny_loadName_cell I.ok.kind hk hc hcell fin) hd
  . exact wpAny_Name (wpAny_loadName_free I.ok.kind hk hc hcell fin cM) hd
theorem zb{i j pos}:PE X (.Constant (.int i) j pos) (tC (.int i)):=λ_ _ _ H _ I h=>wpAny_Constant_int ⟨.int i,H,I.tok _,⟨_,rfl⟩,h⟩
theorem Qv{b j pos}:PE X (.Constant (.bool b) j pos) (tC (.bl b)):=λ_ _ _ H _ I h=>Constant_bool ⟨.bl b,H,I,rfl,h⟩
theorem J5{j pos}:PE X (.Constant .none j pos) (tC .non):=λ_ _ _ H _ I h=>Constant_none ⟨.non,H,I,rfl,h⟩
theorem J6{x j pos}:PE X (.Constant (.str x) j pos) (tC (.str x)):=λ_ _ _ H _ I h=>Calls.Constant_str ⟨.str x,H,I.tok _,⟨_,rfl⟩,h⟩
def Gl(X:Cx)(x:Str):Prop:=X.env.kindOf x=some .globalImplicit
theorem vn{E:Value->Shared->Prop}{ah:List (Addr×Obj)}{s:Shared}{σ:St}{H:Hp}{x:Str}{u:Value}{pos:Pos}{Q:Value->Shared->Prop}(I:Inv X ah σ H s)(hg:Gl X x)(hm:X.mg x=some u)(h:Q u s)
  (hd:(x==("__debug__":Str))=false:=by decide):wpAny (model X.prog X.w) X.A (eval (.Name x pos) X.env) Q E s:=
 Calls.Name_function_global I.ok.kind hg (Calls.loadGlobal_global (by rw[I.ok.glob];exact I.mod.glob.keeps I.bk) hm h) hd
theorem dJ{E:Value->Shared->Prop}{ah:List (Addr×Obj)}{s:Shared}{σ:St}{H:Hp}{x:Str}{u:Value}{pos:Pos}{Q:Value->Shared->Prop}(I:Inv X ah σ H s)(hg:Gl X x)(hm:X.mg x=none)(hv:bootBuiltins x=some u)(h:Q u s)
  (hn:x≠ "__name__" :=by decide) (hd:(x==("__debug__":Str))=false:=by decide):wpAny (model X.prog X.w) X.A (eval (.Name x pos) X.env) Q E s:=by
 obtain⟨mb,h1,h2⟩:=I.mod.blt;exact Calls.Name_function_global I.ok.kind hg (Calls.loadGlobal_builtin (by rw[I.ok.glob];exact I.mod.glob.keeps I.bk) hm (by rw[I.ok.blt];exact h1.keeps I.bk) ((h2 x hn).trans hv) h) hd
theorem Ep(hg:Gl X x)(hm:X.mg x=some u)(r:RelV v u)(hd:(x==("__debug__":Str))=false:=by decide):PE X (.Name x pos) (tC v):=
 λ_ _ _ H _ I h=>vn I hg hm ⟨v,H,I,r,h⟩ hd
theorem vo(hg:Gl X x)(hm:X.mg x=none)(hv:bootBuiltins x=some u)(r:RelV v u)(hn:x≠ "__name__" :=by decide)(hd:(x==("__debug__":Str))=false:=by decide):PE X (.Name x pos) (tC v):=
 λ_ _ _ H _ I h=>dJ I hg hm hv ⟨v,H,I,r,h⟩ hn hd
variable{a b:Expr}{ta tb:TE}{pos:Pos}
variable{tA T9:TT}{rest:List Expr}
noncomputable def Vl(t u:TT):TT:=λσ H Q=>t σ H λc H1=>if c=true then u σ H1 Q else Q false H1
noncomputable def YZ(t u:TT):TT:=λσ H Q=>t σ H λc H1=>if c=true then Q true H1 else u σ H1 Q
def Vm(t:TT):TT:=λσ H Q=>t σ H λc H1=>Q (!c) H1
theorem pw_and1(ha:PT X a tA):PW X (.BoolOp .And [a] pos) tA:=by
 intro wh ah s σ H Q I h;refine isTrue_and (bI (ha ah s σ H Q I h) λc s1 e=>?_)
 cases c with
 |true=>exact isTrue_and_nil e
 |false=>exact e
theorem pw_or1(ha:PT X a tA):PW X (.BoolOp .Or [a] pos) tA:=by
 intro wh ah s σ H Q I h;refine isTrue_or (bI (ha ah s σ H Q I h) λc s1 e=>?_)
 cases c with
 |false=>exact isTrue_or_nil e
 |true=>exact e
theorem pw_and(ha:PT X a tA)(hb:PW X (.BoolOp .And (b::rest) pos) T9):PW X (.BoolOp .And (a::b::rest) pos) (Vl tA T9):=by
 intro wh ah s σ H Q I h;refine isTrue_and (bI (ha ah s σ H _ I h) λc s1 ⟨H1,I1,q1⟩=>?_)
 cases c with
 |true=>exact hb wh ah s1 σ H1 Q I1 q1
 |false=>exact⟨H1,I1,q1⟩
theorem pw_or(ha:PT X a tA)(hb:PW X (.BoolOp .Or (b::rest) pos) T9):PW X (.BoolOp .Or (a::b::rest) pos) (YZ tA T9):=by
 intro wh ah s σ H Q I h;refine isTrue_or (bI (ha ah s σ H _ I h) λc s1 ⟨H1,I1,q1⟩=>?_)
 cases c with
 |true=>exact⟨H1,I1,q1⟩
 |false=>exact hb wh ah s1 σ H1 Q I1 q1
theorem J7(ha:PT X a tA):PT X (.UnaryOp .Not a pos) (Vm tA):=by intro ah s σ H Q I h;exact isTrue_not (ha ah s σ H (λc H1=>Q (!c) H1) I h)
noncomputable def Qw(ta tb:TE):TE:=λσ H Q=>ta σ H λx H1=>∃c,x=.bl c/\if c=true then tb σ H1 Q else Q (.bl false) H1
noncomputable def Vn(ta tb:TE):TE:=λσ H Q=>ta σ H λx H1=>∃c,x=.bl c/\if c=true then Q (.bl true) H1 else tb σ H1 Q
def Qx(ta:TE):TE:=λσ H Q=>ta σ H λx H1=>∃c,x=.bl c/\Q (.bl (!c)) H1
theorem J8{op}(h:PE X a t):PE X (.BoolOp op [a] pos) t:=λah s σ H Q I hw=>BoolOp_one (h ah s σ H Q I hw)
theorem zc(ha:PE X a ta)(hb:PE X (.BoolOp .And (b::rest) pos) tb):PE X (.BoolOp .And (a::b::rest) pos) (Qw ta tb):=by
 intro ah s σ H Q I h;refine BoolOp_and (bI (ha ah s σ H _ I h) λv s1 ⟨x,H1,I1,r1,q1⟩=>?_)
 obtain⟨c,rfl,q1⟩:=q1;cases r1;refine nN ?_;cases c with
 |true=>exact hb ah s1 σ H1 Q I1 q1
 |false=>exact⟨.bl false,H1,I1,rfl,q1⟩
theorem Jl(ha:PE X a ta)(hb:PE X (.BoolOp .Or (b::rest) pos) tb):PE X (.BoolOp .Or (a::b::rest) pos) (Vn ta tb):=by
 intro ah s σ H Q I h;refine BoolOp_or (bI (ha ah s σ H _ I h) λv s1 ⟨x,H1,I1,r1,q1⟩=>?_)
 obtain⟨c,rfl,q1⟩:=q1;cases r1;refine nN ?_;cases c with
 |false=>exact hb ah s1 σ H1 Q I1 q1
 |true=>exact⟨.bl true,H1,I1,rfl,q1⟩
theorem J9(ha:PE X a ta):PE X (.UnaryOp .Not a pos) (Qx ta):=by
 intro ah s σ H Q I h;refine UnaryOp_ (bI (ha ah s σ H _ I h) λv s1 ⟨x,H1,I1,r1,q1⟩=>?_)
 obtain⟨c,rfl,q1⟩:=q1;cases r1;exact not_of (nN ⟨.bl (!c),H1,I1,rfl,q1⟩)
noncomputable def Y0(t:TT)(ta tb:TE):TE:=λσ H Q=>t σ H λc H1=>if c=true then ta σ H1 Q else tb σ H1 Q
theorem qJ{c:Expr}(hc:PT X c tA)(ha:PE X a ta)(hb:PE X b tb):PE X (.IfExp c a b pos) (Y0 tA ta tb):=by
 intro ah s σ H Q I h;refine wpAny_IfExp (bI (hc ah s σ H _ I h) λd s1 ⟨H1,I1,q1⟩=>?_)
 cases d with
 |true=>exact ha ah s1 σ H1 Q I1 q1
 |false=>exact hb ah s1 σ H1 Q I1 q1
end
def bU(K:Frag)(H:Hp)(a:Addr)(xs:List V):Prop:=
 Rd H a (.lst xs)\/
  ∃(o:Obj) (its:Array Value) (n:Nat),K.lookup a=some o/\o.cls=.type "list" /\o.dict=none/\o.data=.seq its n/\its.size<=sizeLine/\Vals xs its.toList
def eZ(K:Frag)(H:Hp)(a:Addr)(xs:List V):Prop:=
 Rd H a (.tup xs)\/
  ∃(o:Obj) (its:Array Value) (n:Nat),K.lookup a=some o/\o.cls=.type "tuple" /\o.data=.seq its n/\its.size<=sizeLine/\Vals xs its.toList
noncomputable def Vo:Value->Option V
 |.none=>some .non
 |.bool b=>some (.bl b)
 |.int i _=>some (.int i)
 |.str x _=>some (.str x)
 |.bytes b _=>some (.Jk b)
 |.float b _=>some (.flt b)
 |.ref a=>some (.ref a)
 |.type n=>some (.ty n)
 |_=>none
theorem RelV.abs(r:RelV x u):Vo u=some x:=by
 cases x with
 |non=>cases r;rfl
 |bl _=>cases r;rfl
 |int _=>obtain⟨t,rfl⟩:=r;rfl
 |str _=>obtain⟨t,rfl⟩:=r;rfl
 |Jk _=>obtain⟨t,rfl⟩:=r;rfl
 |flt _=>obtain⟨t,rfl⟩:=r;rfl
 |ref _=>cases r;rfl
 |ty _=>cases r;rfl
theorem RelV.inj{x y:V}{u:Value}(r:RelV x u)(q:RelV y u):x=y:=l6 (r.abs.symm.trans q.abs)
theorem Vals.inj:∀{xs ys:List V}{us:List Value},Vals xs us->Vals ys us->xs=ys
 |_,_,_,.nil,.nil=>rfl
 |_,_,_,.cons r t,.cons r' t'=>by rw[r.inj r',Vals.inj t t']
section
variable{X:Cx}{ah:List (Addr×Obj)}{σ:St}{H:Hp}{s:Shared}{a:Addr}{xs ys:List V}
theorem bU.of{K:Frag}(h:H a=some (.lst xs)):bU K H a xs:=.inl (.inl h)
theorem Inv.list(I:Inv X ah σ H s)(h:bU X.K H a xs):∃its:List Value,Vals xs its/\PlainL s.heap a its.toArray/\xs.length<=sizeLine:=by
 rcases h with h |⟨o,its,n,hk,hc,hd,hs,hz,r⟩
 . obtain⟨z,its,n,r,e⟩:=h.ok I.hok;exact⟨its,r,⟨_,n,e,rfl,rfl,rfl⟩,z⟩
 .
  refine⟨its.toList,r,⟨o,n,I.qF a o hk,hc,hd,by simpa using hs⟩,?_⟩
  have e:=r.length;simp only[h9]at e;lia
theorem Inv.tuple(I:Inv X ah σ H s)(h:eZ X.K H a xs):∃its:List Value,Vals xs its/\IsTup s.heap a its.toArray/\xs.length<=sizeLine:=by
 rcases h with h |⟨o,its,n,hk,hc,hs,hz,r⟩
 . obtain⟨z,its,r,p⟩:=h.ok I.hok;exact⟨its,r,p.tup,z⟩
 .
  refine⟨its.toList,r,⟨o,I.qF a o hk,hc,n,by simpa using hs⟩,?_⟩
  have e:=r.length;simp only[h9]at e;lia
theorem Inv.qK(I:Inv X ah σ H s)(h:bU X.K H a xs)(h':bU X.K H a ys):xs=ys:=by
 obtain⟨its,r,⟨o,n,e,_,_,d⟩,_⟩:=I.list h;obtain⟨its',r',⟨o',n',e',_,_,d'⟩,_⟩:=I.list h';rw[e]at e';cases e';rw[d]at d';injection d' with d1 _;have:its=its':=by simpa using congrArg Array.toList d1
 subst this;exact r.inj r'
theorem Inv.nq(I:Inv X ah σ H s)(h:eZ X.K H a xs)(h':eZ X.K H a ys):xs=ys:=by
 obtain⟨its,r,⟨o,e,_,n,d⟩,_⟩:=I.tuple h;obtain⟨its',r',⟨o',e',_,n',d'⟩,_⟩:=I.tuple h';rw[e]at e';cases e';rw[d]at d';injection d' with d1 _;have:its=its':=by simpa using congrArg Array.toList d1
 subst this;exact r.inj r'
end
abbrev Cx.wish(X:Cx)(E:Value->Shared->Prop):Cx:={ X with xe:=E}
abbrev Cx.P1(X:Cx):Cx:=X.wish λ_ _=>False
theorem Cx.Ok.wish{X:Cx}(ok:X.Ok)(E:Value->Shared->Prop):(X.wish E).Ok:=
 ⟨ok.mod,ok.kind,ok.glob,ok.blt,ok.above,ok.inj,ok.has,ok.P0,ok.hd,ok.frames,ok.stk,ok.Qq,ok.bs,ok.Eo,ok.tL,ok.wQ,ok.jP,ok.J3⟩
theorem Cx.Ok.fB{X:Cx}{E:Value->Shared->Prop}(ok:(X.wish E).Ok):X.Ok:=
 ⟨ok.mod,ok.kind,ok.glob,ok.blt,ok.above,ok.inj,ok.has,ok.P0,ok.hd,ok.frames,ok.stk,ok.Qq,ok.bs,ok.Eo,ok.tL,ok.wQ,ok.jP,ok.J3⟩
section
variable{X:Cx}{ah:List (Addr×Obj)}{σ:St}{H:Hp}{s:Shared}{E:Value->Shared->Prop}
theorem Inv.wish(I:Inv X ah σ H s)(E:Value->Shared->Prop):Inv (X.wish E) ah σ H s:=⟨I.ok.wish E,I.os,I.bare,I.base,I.loc,I.cell,I.free,I.gH,I.pin,I.hok,I.len⟩
theorem Inv.fB(I:Inv (X.wish E) ah σ H s):Inv X ah σ H s:=⟨I.ok.fB,I.os,I.bare,I.base,I.loc,I.cell,I.free,I.gH,I.pin,I.hok,I.len⟩
theorem SP.fB(h:SP (X.wish E) ah D f s'):SP X ah D f s':=by
 cases f with
 |next=>obtain⟨σ',H',I,q⟩:=h;exact⟨σ',H',I.fB,q⟩
 |brk=>obtain⟨σ',H',I,q⟩:=h;exact⟨σ',H',I.fB,q⟩
 |cont=>obtain⟨σ',H',I,q⟩:=h;exact⟨σ',H',I.fB,q⟩
 |ret u=>obtain⟨v,σ',H',I,r,q⟩:=h;exact⟨v,σ',H',I.fB,r,q⟩
theorem qI.P1{st:List Stmt}{t:TS}(h:qI X.P1 st t):qI X st t:=λah s σ H D I hw=>
 nK (h ah s σ H D (I.wish _) hw) (λ_ _ q=>q.fB) λ_ _ z=>False.elim z
end
section
variable{X:Cx}{st:Stmt}{rest:List Stmt}{t u:TS}{e:Expr}{te:TE}{pos:Pos}
def Qy:TS:=λD σ H=>D.nx σ H
def Qz(t u:TS):TS:=λD σ H=>t { D with nx:=u D} σ H
theorem Er:qI X [] Qy:=λ_ _ σ H _ I h=>wpAny_execs_nil ⟨σ,H,I,h⟩
theorem fC(h1:PS X st t)(h2:qI X rest u):qI X (st::rest) (Qz t u):=by
 intro ah s σ H D I h;refine wpAny_execs_cons (bI (h1 ah s σ H { D with nx:=u D} I h) λf s1 q=>?_)
 cases f with
 |next=>obtain⟨σ',H',I',q⟩:=q;exact h2 ah s1 σ' H' D I' q
 |ret v=>exact q
 |brk=>exact q
 |cont=>exact q
theorem Inv.quiet{ah:List (Addr×Obj)}{σ:St}{H:Hp}{s:Shared}(I:Inv X ah σ H s):interactive X.env=false:=by simp[interactive,I.ok.kind]
def QB(te:TE):TS:=λD σ H=>te σ H λ_ H1=>D.nx σ H1
theorem Es(he:PE X e te)(hs:swapsWith e none pos.line X.env=pure false:=by rfl):PS X (.Expr e pos) (QB te):=by intro ah s σ H D I h;exact wpAny_Expr_any (bI (he ah s σ H _ I h) λv s1 ⟨x,H1,I1,r1,q1⟩=>⟨σ,H1,I1,q1⟩) I.quiet hs
def Vp(te:TE):TS:=λD σ H=>te σ H D.rt
theorem Ka(he:PE X e te):PS X (.Return (some e) pos) (Vp te):=by intro ah s σ H D I h;exact wpAny_Return_some (bI (he ah s σ H _ I h) λv s1 ⟨x,H1,I1,r1,q1⟩=>⟨x,σ,H1,I1,r1,q1⟩)
noncomputable def Vq(c:TT)(t u:TS):TS:=λD σ H=>c σ H λb H1=>if b=true then t D σ H1 else u D σ H1
theorem Jm{c:Expr}{a b:List Stmt}{tc:TT}(hc:PT X c tc)(ha:qI X a t)(hb:qI X b u):PS X (.If c a b pos) (Vq tc t u):=by
 intro ah s σ H D I h;refine wpAny_If (bI (hc ah s σ H _ I h) λd s1 ⟨H1,I1,q1⟩=>?_)
 cases d with
 |true=>exact ha ah s1 σ H1 D I1 q1
 |false=>exact hb ah s1 σ H1 D I1 q1
def Kc:TS:=λ_ _ _=>False
theorem cN:qI X qC Kc:=λ_ _ _ _ _ _ h=>h.elim
end
abbrev TG:=V->St->Hp->(St->Hp->Prop)->Prop
abbrev Jo:=List V->St->Hp->(St->Hp->Prop)->Prop
def PG(X:Cx)(target:Expr)(t:TG):Prop:=
 ∀(ah:List (Addr×Obj)) (s:Shared) (σ:St) (H:Hp) (v:V) (u:Value) (Q:St->Hp->Prop),Inv X ah σ H s->RelV v u->t v σ H Q->
  wpAny (model X.prog X.w) X.A (assign target X.env u) (λ_ s'=>∃σ' H',Inv X ah σ' H' s'/\Q σ' H') X.xe s
def P4(X:Cx)(ts:List Expr)(t:Jo):Prop:=
 ∀(ah:List (Addr×Obj)) (s:Shared) (σ:St) (H:Hp) (vs:List V) (us:List Value) (Q:St->Hp->Prop),Inv X ah σ H s->Vals vs us->t vs σ H Q->
  wpAny (model X.prog X.w) X.A (assignInOrder ((assignEach ts X.env).map (·.2)) us) (λ_ s'=>∃σ' H',Inv X ah σ' H' s'/\Q σ' H') X.xe s
abbrev dj:=V->V->V->Hp->(Hp->Prop)->Prop
def QC(X:Cx)(t:dj):Prop:=
 ∀(ah:List (Addr×Obj)) (s:Shared) (σ:St) (H:Hp) (o i v:V) (ov iv u:Value) (Q:Hp->Prop),Inv X ah σ H s->RelV o ov->RelV i iv->RelV v u->t o i v H Q->
  wpAny (model X.prog X.w) X.A (setItem ov iv u) (λ_ s'=>∃H',Inv X ah σ H' s'/\Q H') X.xe s
section
variable{X:Cx}{pos:Pos}
def zf(i:Nat):TG:=λv σ H Q=>Q (σ.set i (some v)) H
theorem vp(hN:X.N.Nodup)(hi:X.N[i]?=some x)(hx:Loc X.env.scope x)(hf:X.fn x=true\/X.env.scope.names.lookup x=some .local:=by first |exact .inl rfl |exact .inr rfl |assumption):PG X (.Name x pos) (zf i):=by intro ah s σ H v u Q I r h;exact wpAny_assign_Name (iD I hN hi hx r (λs' I'=>⟨_,H,I',h⟩) hf)
def Vr:Jo:=λvs σ H Q=>vs=[]/\Q σ H
noncomputable def QD(t:TG)(u:Jo):Jo:=λvs σ H Q=>∃v r,vs=v::r/\t v σ H λσ' H'=>u r σ' H' Q
theorem Et:P4 X [] Vr:=by intro ah s σ H vs us Q I r h;obtain⟨e,h⟩:=h;subst e;cases r;exact assignInOrder_nil ⟨σ,H,I,h⟩
theorem zg{e:Expr}{es:List Expr}{t:TG}{u:Jo}(h1:PG X e t)(h2:P4 X es u)
  (hs:(assignEach (e::es) X.env).map (·.2)=assign e X.env::(assignEach es X.env).map (·.2):=by rfl):P4 X (e::es) (QD t u):=by
 intro ah s σ H vs us Q I r h;obtain⟨v,vr,e1,h⟩:=h;subst e1;cases r with
 |cons r rr=>
  rw[hs];refine assignInOrder_cons (bI (h1 ah s σ H _ _ _ I r h) λ_ s1 ⟨σ1,H1,I1,q1⟩=>?_)
  exact h2 ah s1 σ1 H1 _ _ Q I1 rr q1
def Vs(K:Frag)(n:Nat)(t:Jo):TG:=λv σ H Q=>∃a xs,v=.ref a/\eZ K H a xs/\xs.length=n/\t xs σ H Q
theorem Kd(hc:X.calm=true)(h:P4 X es t)
  (hn:(assignEach es X.env).length=n:=by rfl) (dH:(assignEach es X.env).findIdx? (·.1)=none:=by rfl):PG X (.Tuple es k pos) (Vs X.K n t):=by
 intro ah s σ H v u Q I r hw;obtain⟨a,xs,e1,hq,hl,hw⟩:=hw;subst e1;cases r;obtain⟨its,rv,ht,hz⟩:=I.tuple hq;refine assign_Tuple_tuple (I.ok.hd hc) ht (by simp[hn,<- hl,rv.length]) dH λh' hx=>?_
 have I1:Inv X ah σ H { s with heap:=h'}:=I.kept (t':=s.toks) λb o e=>hx b o (kA (eP e)) e
 exact h ah _ σ H xs _ Q I1 (by simpa using rv) hw
noncomputable def Vt(to ti:TE)(t:dj):TG:=λv σ H Q=>to σ H λo H1=>ti σ H1 λi H2=>t o i v H2 λH3=>Q σ H3
theorem Ke{o i:Expr}{to ti:TE}{t:dj}(ho:PE X o to)(hi:PE X i ti)(hs:QC X t)
  (ha:∀v,assign (.Subscript o i pos) X.env v=(do
   let ov <- holding [v] (eval o X.env)
   let iv <- holding [v,ov] (eval i X.env)
   standAt pos
   holding [v,ov,iv] (setItem ov iv v)
   release [v,ov,iv] []):=by intro _;rfl):PG X (.Subscript o i pos) (Vt to ti t):=by
 intro ah s σ H v u Q I r h;rw[ha];refine aS (i7 (bI (ho ah s σ H _ I h) λov s1 ⟨x,H1,I1,r1,q1⟩=>?_))
 refine aS (i7 (bI (hi ah s1 σ H1 _ I1 q1) λiv s2 ⟨y,H2,I2,r2,q2⟩=>?_))
 refine aS (BB (aS (i7 (bI (hs ah s2 σ H2 x y v ov iv u _ I2 r1 r2 r q2) λ_ s3 ⟨H3,I3,q3⟩=>?_))))
 exact wpAny_release ⟨σ,H3,I3,q3⟩
def Kf(te:TE)(g:TG):TS:=λD σ H=>te σ H λx H1=>g x σ H1 D.nx
theorem zh{tg e:Expr}{te:TE}{g:TG}(he:PE X e te)(hg:PG X tg g)(hs:swapsWithSole [tg] e pos.line X.env=pure false:=by rfl)(hw:swappedStores [tg] e X.env=pure none:=by rfl)
  (h1:(assignEach [tg] X.env).map (·.2)=[assign tg X.env]:=by rfl):PS X (.Assign [tg] e pos) (Kf te g):=by
 intro ah s σ H D I h;refine wpAny_Assign_stores (bI (he ah s σ H _ I h) λv s1 ⟨x,H1,I1,r1,q1⟩=>?_) hs hw
 rw[h1];exact bI (hg ah s1 σ H1 x v _ I1 r1 q1) λ_ s2 q=>q
theorem zj{i:Nat}{x:Str}{e:Expr}{te:TE}{pos':Pos}(hN:X.N.Nodup)(hi:X.N[i]?=some x)(hx:Loc X.env.scope x)(he:PE X e te)(hs:swapsWith e (some (.Name x pos')) pos.line X.env=pure false:=by rfl)(hf:X.fn x=true\/X.env.scope.names.lookup x=some .local:=by first |exact .inl rfl |exact .inr rfl |assumption) :
  PS X (.Assign [.Name x pos'] e pos) (Kf te (zf i)):=by
 intro ah s σ H D I h;refine wpAny_Assign_Name (bI (he ah s σ H _ I h) λv s1 ⟨y,H1,I1,r1,q1⟩=>?_) hs
 exact iD I1 hN hi hx r1 (λs2 I2=>⟨_,H1,I2,q1⟩) hf
noncomputable def Vu(i j:Nat)(ta:TA):TS:=λD σ H=>ta σ H λvs H1=>∃v w,vs=[v,w]/\D.nx ((σ.set i (some v)).set j (some w)) H1
theorem Kg{i j:Nat}{x y:Str}{a b:Expr}{ta:TA}{px py pt:Pos}{kt k2 vq}(hc:X.calm=true)(hN:X.N.Nodup)(hi:X.N[i]?=some x)(hj:X.N[j]?=some y)(hij:i≠j)
  (hx:X.env.scope.names.lookup x=some .local) (hy:X.env.scope.names.lookup y=some .local) (ha:PA X [a,b] ta)
  (hw:swappedStores [.Tuple [.Name x px,.Name y py] kt pt] (.Tuple [a,b] k2 vq) X.env=pure (some [x,y]))
  (hs:swapsWithSole [.Tuple [.Name x px,.Name y py] kt pt] (.Tuple [a,b] k2 vq) pos.line X.env=pure false:=by rfl) :
  PS X (.Assign [.Tuple [.Name x px,.Name y py] kt pt] (.Tuple [a,b] k2 vq) pos) (Vu i j ta):=by
 intro ah s σ H D I h;rw[exec_Assign_arm];refine aS (BB ?_);rw[hs];refine aS (bP ?_);rw[fI ⋯];refine aS (Tuple_ (bI (ha _ ah s σ H _ I h) λus s1 ⟨vs,H1,I1,r1,q1⟩=>?_))
 obtain⟨v,w,e1,q1⟩:=q1;subst e1;obtain⟨u1,u2,rfl,rv,rw'⟩:∃u1 u2,us=[u1,u2]/\RelV v u1/\RelV w u2:=by
  cases r1 with
  |cons p q=>
   cases q with
   |cons p' q'=>cases q';exact⟨_,_,rfl,p,p'⟩
 refine lL ?_ (by show 2<=sizeLine;decide)
 have I2:Inv X ah σ H1 { s1 with heap:=s1.heap.push { cls:=.type "tuple",data:=.seq [u1,u2].toArray}}:=I1.kept (t':=s1.toks) λb o e=>a9 _ e
 rw[hw];refine aS (bP ?_);show wpAny (model X.prog X.w) X.A (do rule "assign.swapped-stores";let items <- unpackItems (.ref s1⁻¹) 2 none;assignInOrder [λv=>bindName X.env y v,λv=>bindName X.env x v] items.reverse;pure Flow.next) _ _ _
 refine aS (C5 (aS (unpackItems_tuple (items:=#[u1,u2]) (I.ok.hd hc) (IsTup.new s1.heap _) λh' hx'=>?_)))
 have I3:=I2.kept (h':=h') (t':=s1.toks) λb o e=>hx' b o (kA (eP e)) e
 show wpAny _ _ (assignInOrder [λv=>bindName X.env y v,λv=>bindName X.env x v] [u2,u1] >>= λ_=>pure Flow.next) _ _ _
 refine aS (assignInOrder_cons (wpAny_bindName (iD I3 hN hj (.inl hy) rw' (λs2 I4=>?_) (.inr hy))))
 refine assignInOrder_cons (wpAny_bindName (iD I4 hN hi (.inl hx) rv (λs3 I5=>assignInOrder_nil (bP ?_)) (.inr hx)))
 rw[List.set_comm _ _ (t9 hij)]at I5;exact⟨_,H1,I5,q1⟩
end
section
variable{X:Cx}{pos:Pos}
noncomputable def Kh(c:TT)(tb:TS):TS:=λD σ H=>∃W:Nat->St->Hp->Prop,(∃m,W m σ H)/\∀m σ H,W m σ H->
 c σ H λb H1=>if b=true then ∃N:St->Hp->Prop,(∀σ' H',N σ' H'->∃m',m'<m/\W m' σ' H')/\tb { D with nx:=N,ct:=N,bk:=D.nx} σ H1 else D.nx σ H1
theorem zm{c:Expr}{body:List Stmt}{tc:TT}{tb:TS}(hp:PassesOwn (model X.prog X.w) X.A X.env X.xe)(hc:PT X c tc)(hb:qI X body tb):PS X (.While c body [] pos) (Kh tc tb):=by
 intro ah s σ H D I h;obtain⟨W,⟨m0,w0⟩,turn⟩:=h;refine wpAny_While (codeAny_whileLoop (λn s'=>∃σ' H',Inv X ah σ' H' s'/\W n σ' H') ?_ m0 ⟨σ,H,I,w0⟩)
 rintro n s1 ⟨σ1,H1,I1,w1⟩;refine AE hp (bI (hc ah s1 σ1 H1 _ I1 (turn n σ1 H1 w1)) λb s2 ⟨H2,I2,q2⟩=>?_)
 cases b with
 |true=>
  obtain⟨N,hN,q2⟩:=q2;rw[fN rfl];refine AE hp (bI (hb ah s2 σ1 H2 _ I2 q2) λf s3 q3=>?_)
  cases f with
  |next=>obtain⟨σ3,H3,I3,n3⟩:=q3;obtain⟨m',hm,w3⟩:=hN σ3 H3 n3;exact⟨m',hm,σ3,H3,I3,w3⟩
  |cont=>obtain⟨σ3,H3,I3,n3⟩:=q3;obtain⟨m',hm,w3⟩:=hN σ3 H3 n3;exact⟨m',hm,σ3,H3,I3,w3⟩
  |brk=>exact q3
  |ret v=>exact q3
 |false=>rw[fI kS];exact wpAny_execs_nil ⟨σ1,H2,I2,q2⟩
end
structure It where
 go:Nat->Hp->Prop
 Ua:Nat->Hp->V->Hp->Prop
 stop:Nat->Hp->Prop
def jf(X:Cx)(ah:List (Addr×Obj))(H:Hp)(b:Addr):Prop:=
 H b=none/\b≠X.env.locals/\b∉X.fs/\(b∈X.ex\/X.s₀⁻¹<=b)/\(∀x c,X.env.cells.lookup x=some c->c≠b)/\∀p∈X.pn++ah,p.1≠b
theorem Inv.zo{X:Cx}{ah:List (Addr×Obj)}{σ:St}{H H':Hp}{s:Shared}{b:Addr}(I:Inv X ah σ H s)(hb:s⁻¹<=b)(hn:H' b=none):jf X ah H' b:=by
 refine⟨hn,B5 (fR I.lt hb),I.Vi hb,.inr (l5 I.sz hb),λx c e z=>?_,λp hp z=>?_⟩
 . obtain⟨v,q⟩:=I.cell x c e;exact absurd (fR q.lt (by rw[z];exact hb)) (tJ _)
 . exact absurd (fR (eP (I.pin p hp).1) (by rw[z];exact hb)) (tJ _)
structure Turn(P:Program)(w:World)(K:Frag)(tg:Expr)(J:It)(fp:List Addr)(it:Addr)(tn:Nat->Heap->Prop):Prop where
 mem:it∈fp
 obj:∀i h,tn i h->∀b∈fp,∃o,h.get? b=some o/\∀v,o.data≠.cell v
 keep:∀i h h',tn i h->(∀b∈fp,∀o,h.get? b=some o->h'.get? b=some o)->tn i h'
 item:∀(X:Cx),X.prog=P->X.w=w->X.K=K->X.calm=true->∀(i:Nat) (ah:List (Addr×Obj)) (s:Shared) (σ:St) (H:Hp) (E:Value->Shared->Prop),Inv X ah σ H s->(∀b∈fp,jf X ah H b)->tn i s.heap->J.go i H->
  wpAny (model P w) X.A (pyNext (.ref it)) (λr s1=>∃u,r=some u/\
   wpAny (model P w) X.A (letOwnedTupleGo tg (.ref it) u) (λ_ s2=>∃x H',Inv X ah σ H' s2/\RelV x u/\J.Ua i H x H'/\tn (i+1) s2.heap/\∀b∈fp,H' b=none) E s1) E s
 done:∀(X:Cx),X.prog=P->X.w=w->X.K=K->X.calm=true->∀(i:Nat) (ah:List (Addr×Obj)) (s:Shared) (σ:St) (H:Hp) (E:Value->Shared->Prop),Inv X ah σ H s->(∀b∈fp,jf X ah H b)->tn i s.heap->J.stop i H->
  wpAny (model P w) X.A (pyNext (.ref it)) (λr s1=>r=none/\Inv X ah σ H s1) E s
 self:∀(A:Around) (i:Nat) (s:Shared) (Q:Value->Shared->Prop) (E:Value->Shared->Prop),tn i s.heap->Q (.ref it) s->wpAny (model P w) A (pyIter (.ref it)) Q E s
abbrev TI:=St->Hp->(It->Hp->Prop)->Prop
def PIE(X:Cx)(ah:List (Addr×Obj))(σ:St)(tg:Expr)(R:It->Hp->Prop)(itv:Value)(s2:Shared):Prop:=
 ∃(it:Addr) (fp:List Addr) (tn:Nat->Heap->Prop) (J:It) (H':Hp),itv=.ref it/\Inv X ah σ H' s2/\Turn X.prog X.w X.K tg J fp it tn/\tn 0 s2.heap/\(∀b∈fp,jf X ah H' b)/\R J H'
def PI(X:Cx)(tg iter:Expr)(wi:TI):Prop:=
 ∀(ah:List (Addr×Obj)) (s:Shared) (σ:St) (H:Hp) (R:It->Hp->Prop),Inv X ah σ H s->wi σ H R->
  wpAny (model X.prog X.w) X.A (eval iter X.env) (λv s1=>wpAny (model X.prog X.w) X.A (pyIter v) (PIE X ah σ tg R) X.xe s1) X.xe s
theorem zp(ho:s.heap.get? it=some o)(hc:o.cls=.type n)(hd:o.data=.fields vs)
  (hn:["enumerate", "zip", "dict_itemiterator", "dict_reverseitemiterator", "odict_iterator", "itertools.zip_longest", "itertools.pairwise"].contains n=false) (hQ:Q () s):wpAny M A (letOwnedTupleGo tg (.ref it) u) Q E s:=by
 unfold letOwnedTupleGo;cases tg <;> first
  |exact bP hQ
  | (cases u <;> first
    |exact bP hQ
    | (refine aS (wpAny_load ho ?_)
       rw[hc,hd];show wpAny M A (if (["enumerate", "zip", "dict_itemiterator", "dict_reverseitemiterator", "odict_iterator", "itertools.zip_longest", "itertools.pairwise"].contains n&&vs[0]?==some (rawInt _))=true then _ else _) Q E s
       rw[fI (by intro h;rw[hn,AR]at h;cases h)]
       exact bP hQ))
def Xy(K:Frag)(a:Addr):It:=
 ⟨λi H=>∃xs x,bU K H a xs/\xs[i]?=some x,λi H x H'=>H'=H/\∀xs,bU K H a xs->xs[i]?=some x,λi H=>∃xs,bU K H a xs/\xs.length<=i⟩
def Xz(K:Frag)(a:Addr):It:=
 ⟨λi H=>∃xs x,eZ K H a xs/\xs[i]?=some x,λi H x H'=>H'=H/\∀xs,eZ K H a xs->xs[i]?=some x,λi H=>∃xs,eZ K H a xs/\xs.length<=i⟩
noncomputable def Kl(lo:Int)(n:Nat):It:=⟨λi _=>i<n,λi H x H'=>H'=H/\x=.int (lo+i),λi _=>n<=i⟩
theorem wR{P:Program}{w:World}{K:Frag}{tg:Expr}(a it:Addr):Turn P w K tg (Xy K a) [it] it (λi h=>h.IsListIter it a i) where
 mem:=by simp
 obj:=λi h st b hb=>by
  have e:b=it:=by simpa using hb
  subst e;obtain⟨o,e,c,d⟩:=st;exact⟨o,e,λv z=>by rw[d]at z;cases z⟩
 keep:=λi h h' st k=>st.at λo e=>k it ⋯ o e
 item:=by
  intro X hP hw hK hc i ah s σ H E I hf st hg;subst hP hw hK;obtain⟨xs,x,hq,hx⟩:=hg;obtain⟨its,rv,p,hz⟩:=I.list hq;obtain⟨u,hu,ru⟩:=rv.get hx;obtain⟨f0,f1,f2,f3,f4,f5⟩:=hf it ⋯;refine wpAny_pyNext_list_item st p.isList (x:=u) (by simpa using hu) λh' st' sb=>?_
  have I1:Inv X ah σ H { s with heap:=h'}:=I.turned (t':=s.toks) (λb o hb e=>(sb.2 b hb).trans e) f0 f1 f3 f4 f5
  obtain⟨o,e,c,d⟩:=id st';exact⟨u,rfl,zp (s:={ s with heap:=h'}) e c d ⋯ ⟨x,H,I1,ru,⟨rfl,λys hy=>by rw[I.qK hy hq];exact hx⟩,st',λb hb=>(hf b hb).1⟩⟩
 done:=by intro X hP hw hK hc i ah s σ H E I hf st hg;subst hP hw hK;obtain⟨xs,hq,hx⟩:=hg;obtain⟨its,rv,p,hz⟩:=I.list hq;obtain⟨f0,f1,f2,f3,f4,f5⟩:=hf it ⋯;have hl:=rv.length;exact wpAny_pyNext_list_end (I.ok.hd hc) st p.isList (by simp;lia) λh' eb=>⟨rfl,I.turned (t':=s.toks) (λb o hb e=>eb b o hb e) f0 f1 f3 f4 f5⟩
 self:=λ_ _ _ _ _ st h=>wpAny_pyIter_listiter st h
theorem tN{P:Program}{w:World}{K:Frag}{tg:Expr}(a it:Addr):Turn P w K tg (Xz K a) [it] it (λi h=>h.IsTupleIter it a i) where
 mem:=by simp
 obj:=λi h st b hb=>by
  have e:b=it:=by simpa using hb
  subst e;obtain⟨o,e,c,d⟩:=st;exact⟨o,e,λv z=>by rw[d]at z;cases z⟩
 keep:=λi h h' st k=>st.at λo e=>k it ⋯ o e
 item:=by
  intro X hP hw hK hc i ah s σ H E I hf st hg;subst hP hw hK;obtain⟨xs,x,hq,hx⟩:=hg;obtain⟨its,rv,p,hz⟩:=I.tuple hq;obtain⟨u,hu,ru⟩:=rv.get hx;obtain⟨f0,f1,f2,f3,f4,f5⟩:=hf it ⋯;refine wpAny_pyNext_tuple_item st (show s.heap.IsTuple a its.toArray from p) (x:=u) (by simpa using hu) λh' st' sb=>?_
  have I1:Inv X ah σ H { s with heap:=h'}:=I.turned (t':=s.toks) (λb o hb e=>(sb.2 b hb).trans e) f0 f1 f3 f4 f5
  obtain⟨o,e,c,d⟩:=id st';exact⟨u,rfl,zp (s:={ s with heap:=h'}) e c d ⋯ ⟨x,H,I1,ru,⟨rfl,λys hy=>by rw[I.nq hy hq];exact hx⟩,st',λb hb=>(hf b hb).1⟩⟩
 done:=by intro X hP hw hK hc i ah s σ H E I hf st hg;subst hP hw hK;obtain⟨xs,hq,hx⟩:=hg;obtain⟨its,rv,p,hz⟩:=I.tuple hq;obtain⟨f0,f1,f2,f3,f4,f5⟩:=hf it ⋯;have hl:=rv.length;exact wpAny_pyNext_tuple_end (I.ok.hd hc) st (show s.heap.IsTuple a its.toArray from p) (by simp;lia) λh' eb=>⟨rfl,I.turned (t':=s.toks) (λb o hb e=>eb b o hb e) f0 f1 f3 f4 f5⟩
 self:=λ_ _ _ _ _ st h=>wpAny_pyIter_tupleiter st h
theorem tQ{P:Program}{w:World}{K:Frag}{tg:Expr}(it:Addr)(lo:Int)(n:Nat):Turn P w K tg (Kl lo n) [it] it (λi h=>IsRangeIter h it (lo+(i:Nat) * 1) ((n:Int) - (i:Nat)) 1) where
 mem:=by simp
 obj:=λi h st b hb=>by
  have e:b=it:=by simpa using hb
  subst e;exact⟨_,st,λv z=>by
   have z':Data.fields _=Data.cell v:=z;cases z'⟩
 keep:=λi h h' st k=>k it ⋯ _ st
 item:=by
  intro X hP hw hK hc i ah s σ H E I hf st hg;subst hP hw hK;obtain⟨f0,f1,f2,f3,f4,f5⟩:=hf it ⋯;have W:=Walks.range (prog:=X.prog) (w:=X.w) (I.ok.hd hc) it lo 1 n;refine W.item i s _ _ hg st λv h' tk hv st' kk=>?_
  obtain⟨t,rfl⟩:=hv;have I1:Inv X ah σ H { s with heap:=h',toks:=tk}:=I.turned (λb o hb e=>kk b o (by simpa using hb) e) f0 f1 f3 f4 f5
  refine⟨_,rfl,zp (s:={ s with heap:=h',toks:=tk}) (n:= "range_iterator") st' rfl rfl ⋯ ⟨.int (lo+i),H,I1,⟨t,?_⟩,⟨rfl,rfl⟩,st',λb hb=>(hf b hb).1⟩⟩
  rw[Int.mul_one]
 done:=by intro X hP hw hK hc i ah s σ H E I hf st hg;subst hP hw hK;obtain⟨f0,f1,f2,f3,f4,f5⟩:=hf it ⋯;exact wpAny_pyNext_range_end (I.ok.hd hc) st (by have:n<=i:=hg;lia) λh' eb=>⟨rfl,I.turned (t':=s.toks) (λb o hb e=>eb b o hb e) f0 f1 f3 f4 f5⟩
 self:=λ_ _ _ _ _ st h=>wpAny_pyIter_rangeiter st h
section
variable{X:Cx}{tg:Expr}
def QF(K:Frag)(tl:TE):TI:=λσ H R=>tl σ H λx H1=>∃a,x=.ref a/\(∃xs,bU K H1 a xs)/\R (Xy K a) H1
def Vv(K:Frag)(tl:TE):TI:=λσ H R=>tl σ H λx H1=>∃a,x=.ref a/\(∃xs,eZ K H1 a xs)/\R (Xz K a) H1
theorem vt{l:Expr}{tl:TE}(hl:PE X l tl):PI X tg l (QF X.K tl):=by
 intro ah s σ H R I h;refine bI (hl ah s σ H _ I h) λv s1 ⟨x,H1,I1,r1,q1⟩=>?_
 obtain⟨a,e,⟨xs,hq⟩,q⟩:=q1;subst e;cases r1;obtain⟨its,rv,p,hz⟩:=I1.list hq;refine wpAny_pyIter_list p.isList ?_;refine⟨s1⁻¹,[s1⁻¹],_,_,H1,rfl,I1.kept (t':=s1.toks) λb o e=>a9 _ e,wR a _,⟨_,eC _ rfl,rfl,rfl⟩,λb hb=>?_,q⟩
 have e:b=s1⁻¹:=by simpa using hb
 subst e;exact I1.zo (eA _) (I1.hok.fresh (eA _))
theorem Km{l:Expr}{tl:TE}(hl:PE X l tl):PI X tg l (Vv X.K tl):=by
 intro ah s σ H R I h;refine bI (hl ah s σ H _ I h) λv s1 ⟨x,H1,I1,r1,q1⟩=>?_
 obtain⟨a,e,⟨xs,hq⟩,q⟩:=q1;subst e;cases r1;obtain⟨its,rv,p,hz⟩:=I1.tuple hq;refine BC (show s1.heap.IsTuple a its.toArray from p) ?_
 refine⟨s1⁻¹,[s1⁻¹],_,_,H1,rfl,I1.kept (t':=s1.toks) λb o e=>a9 _ e,tN a _,⟨_,eC _ rfl,rfl,rfl⟩,λb hb=>?_,q⟩
 have e:b=s1⁻¹:=by simpa using hb
 subst e;exact I1.zo (eA _) (I1.hok.fresh (eA _))
theorem qL{ah:List (Addr×Obj)}{σ:St}{H:Hp}{s:Shared}{R:It->Hp->Prop}{E:Value->Shared->Prop}{lo hi:Int}{t u v:Tok}{tk:Nat}(I:Inv X ah σ H s)(h1 : -(2 ^ 62)<=lo)(h2:lo<2 ^ 62)(h3 : -(2 ^ 62)<=hi)(h4:hi<2 ^ 62)
  (q:R (Kl lo (hi - lo).toNat) H):wpAny (model X.prog X.w) X.A (pyIter (.ref s⁻¹)) (PIE X ah σ tg R) E { s with heap:=s.heap.push { cls:=.type "range",data:=.fields #[.int lo t,.int hi u,.int 1 v]},toks:=tk}:=by
 refine wpAny_pyIter_range (IsRange.new ..) (small_one h1 h2 h3 h4) ?_;have I1:Inv X ah σ H { s with heap:=s.heap.push { cls:=.type "range",data:=.fields #[.int lo t,.int hi u,.int 1 v]},toks:=tk}:=I.kept λb o e=>a9 _ e
 refine⟨(s.heap.push { cls:=.type "range",data:=.fields #[.int lo t,.int hi u,.int 1 v]}).objs.size,[(s.heap.push { cls:=.type "range",data:=.fields #[.int lo t,.int hi u,.int 1 v]}).objs.size],_,_,H,rfl,
  I1.kept (t':=tk) λb o e=>a9 _ e,tQ _ lo (hi - lo).toNat,?_,λb hb=>?_,q⟩
 .
  have e1:lo+((0:Nat):Int) * 1=lo:=by simp
  have e2:(((hi - lo).toNat:Nat):Int) - ((0:Nat):Int)=Builtin.Range.rangeSize lo hi 1:=by rw[rangeSize_one];split <;> lia
  show IsRangeIter _ _ (lo+((0:Nat):Int) * 1) ((((hi - lo).toNat:Nat):Int) - ((0:Nat):Int)) 1;rw[e1,e2];exact eC _ rfl
 .
  have e:b=(s.heap.push { cls:=.type "range",data:=.fields #[.int lo t,.int hi u,.int 1 v]}).objs.size:=by simpa using hb
  subst e;exact I1.zo (eA _) (I1.hok.fresh (eA _))
def QG(ta:TA):TI:=λσ H R=>ta σ H λvs H1=>∃j:Int,vs=[.int j]/\-(2 ^ 62)<=j/\j<2 ^ 62/\R (Kl 0 j.toNat) H1
def QH(ta:TA):TI:=λσ H R=>ta σ H λvs H1=>∃i j:Int,vs=[.int i,.int j]/\(-(2 ^ 62)<=i/\i<2 ^ 62/\-(2 ^ 62)<=j/\j<2 ^ 62)/\R (Kl i (j - i).toNat) H1
theorem wU{a:Expr}{ta:TA}{p pos:Pos}(hg:Gl X "range")(hm:X.mg "range"=none)(ha:PA X [a] ta)(hs:starEach [a] X.env=[(false,eval a X.env)]:=by rfl):PI X tg (.Call (.Name "range" p) [a] [] pos) (QG ta):=by
 intro ah s σ H R I h;refine Call_ (dJ I hg hm boot_range (mN (bI (ha pos ah s σ H _ I h) λus s1 ⟨vs,H1,I1,r1,q1⟩=>?_) hs rfl))
 obtain⟨j,e,q1,q2,q⟩:=q1;subst e;cases r1 with
 |cons r rr=>cases rr;obtain⟨t,rfl⟩:=r;exact call_range_1 (qL I1 ⋯ ⋯ q1 q2 (by simpa using q))
theorem wV{a b:Expr}{ta:TA}{p pos:Pos}(hg:Gl X "range")(hm:X.mg "range"=none)(ha:PA X [a,b] ta)(hs:starEach [a,b] X.env=[(false,eval a X.env),(false,eval b X.env)]:=by rfl)(hs2:starEach [b] X.env=[(false,eval b X.env)]:=by rfl) :
  PI X tg (.Call (.Name "range" p) [a,b] [] pos) (QH ta):=by
 intro ah s σ H R I h;refine Call_ (dJ I hg hm boot_range (mN (bI (ha pos ah s σ H _ I h) λus s1 ⟨vs,H1,I1,r1,q1⟩=>?_) (by rw[hs,hs2]) (by rw[hs2];rfl)))
 obtain⟨i,j,e,⟨q1,q2,q3,q4⟩,q⟩:=q1;subst e;cases r1 with
 |cons r rr=>
  cases rr with
  |cons r' rr=>cases rr;obtain⟨t,rfl⟩:=r;obtain⟨t',rfl⟩:=r';exact call_range_2 (qL I1 q1 q2 q3 q4 q)
noncomputable def Vw(wi:TI)(g:TG)(tb:TS):TS:=λD σ H=>wi σ H λJ H1=>∃W:Nat->Nat->St->Hp->Prop,(∃m,W 0 m σ H1)/\∀i m σ H,W i m σ H->
 (J.stop i H/\D.nx σ H)\/(J.go i H/\∃N:St->Hp->Prop,(∀σ' H',N σ' H'->∃m',m'<m/\W (i+1) m' σ' H')/\∀x H',J.Ua i H x H'->g x σ H' λσ2 H2=>tb { D with nx:=N,ct:=N,bk:=D.nx} σ2 H2)
noncomputable def kC(fp:List Addr)(h:Heap):List (Addr×Obj):=fp.filterMap λb=>(h.get? b).map λo=>(b,o)
theorem eH{fp:List Addr}{h:Heap}{b:Addr}{o:Obj}(hb:b∈fp)(e:h.get? b=some o):(b,o)∈kC fp h:=List.mem_filterMap.mpr ⟨b,hb,by rw[e];rfl⟩
theorem wW(hp:p∈kC fp h):p.1∈fp/\h.get? p.1=some p.2:=by
 obtain⟨b,hb,e⟩:=List.mem_filterMap.mp hp;cases q:h.get? b with
 |none=>rw[q]at e;cases e
 |some o=>rw[q]at e;have e':(b,o)=p:=l6 e;subst e';exact⟨hb,q⟩
theorem Inv.pinned{ah:List (Addr×Obj)}{σ:St}{H:Hp}{s:Shared}{fp:List Addr}(I:Inv X ah σ H s)(hf:∀b∈fp,jf X ah H b)(ho:∀b∈fp,∃o,s.heap.get? b=some o/\∀v,o.data≠.cell v):Inv X (ah++kC fp s.heap) σ H s:=
 I.vm λp hp=>(xL.mp hp).elim (λz=>I.pin p (l8 _ z)) λz=>by
  obtain⟨hb,e⟩:=wW z;obtain⟨f0,f1,f2,_⟩:=hf p.1 hb;obtain⟨o,e',d⟩:=ho p.1 hb;rw[e]at e';cases e';exact⟨e,f0,f1,f2,d⟩
theorem Inv.iE{ah pl:List (Addr×Obj)}{σ:St}{H:Hp}{s:Shared}(I:Inv X (ah++pl) σ H s):Inv X ah σ H s:=I.vm λp hp=>I.pin p (l8 _ (t5 _ hp))
theorem Ko{iter:Expr}{body:List Stmt}{wi:TI}{g:TG}{tb:TS}{pos:Pos}(hp:PassesOwn (model X.prog X.w) X.A X.env X.xe)(hc:X.calm=true)(hi:PI X tg iter wi)(hg:PG X tg g)(hb:qI X body tb)
  (hs:∀x,foldedSetIterable iter X.env x=pure x:=by intro _;rfl):PS X (.For tg iter body [] pos) (Vw wi g tb):=by
 intro ah s σ H D I h;refine wpAny_For (bI (hi ah s σ H _ I h) λv s1 h1=>bI h1 λitv s2 h2=>?_) hs
 obtain⟨it,fp,tn,J,H2,e,I2,T,aM,f2,W,⟨m0,w0⟩,turn⟩:=h2;subst e;have stat:∀{H':Hp},(∀b∈fp,H' b=none)->∀b∈fp,jf X ah H' b:=λhn b hb=>⟨hn b hb,(f2 b hb).2⟩
 refine codeAny_forLoop_any (λn s'=>∃i σ' H',Inv X ah σ' H' s'/\tn i s'.heap/\(∀b∈fp,H' b=none)/\W i n σ' H') ?_ m0 ⟨0,σ,H2,I2,aM,λb hb=>(f2 b hb).1,w0⟩
 rintro n s3 ⟨i,σ3,H3,I3,fW,QJ,w3⟩;rcases turn i n σ3 H3 w3 with ⟨stop,qn⟩ |⟨go,N,hN,step⟩
 .
  refine AE hp (bI (T.done X rfl rfl rfl hc i ah s3 σ3 H3 X.xe I3 (stat QJ) fW stop) λr s4 ⟨hr,I4⟩=>?_)
  subst hr;exact wpAny_execs_nil ⟨σ3,H3,I4,qn⟩
 .
  refine AE hp (bI (T.item X rfl rfl rfl hc i ah s3 σ3 H3 X.xe I3 (stat QJ) fW go) λr s4 ⟨u,hr,h4⟩=>?_)
  subst hr;refine AE hp (bI h4 λ_ s5 ⟨x,H5,I5,r5,y5,wX,Vx⟩=>?_)
  have Vy:=I5.pinned (stat Vx) (T.obj _ _ wX);refine AE hp (bI (hg _ s5 σ3 H5 x u _ Vy r5 (step x H5 y5)) λ_ s6 ⟨σ6,H6,I6,q6⟩=>?_)
  refine AE hp (bI (hb _ s6 σ6 H6 _ I6 q6) λf s7 q7=>?_)
  have again:∀{σ7:St}{H7:Hp},Inv X (ah++kC fp s5.heap) σ7 H7 s7->N σ7 H7->∃m,m<n/\∃i σ' H',Inv X ah σ' H' s7/\tn i s7.heap/\(∀b∈fp,H' b=none)/\W i m σ' H':=λ{σ7 H7} I7 n7=>by
   obtain⟨m',hm,w7⟩:=hN σ7 H7 n7;refine⟨m',hm,i+1,σ7,H7,I7.iE,T.keep _ _ _ wX λb hb o e=>(I7.pin (b,o) (l8 _ (l8 _ (eH hb e)))).1,λb hb=>?_,w7⟩
   obtain⟨o,e,d⟩:=T.obj _ _ wX b hb;exact (I7.pin (b,o) (l8 _ (l8 _ (eH hb e)))).2.1
  cases f with
  |next=>obtain⟨σ7,H7,I7,n7⟩:=q7;exact again I7 n7
  |cont=>obtain⟨σ7,H7,I7,n7⟩:=q7;exact again I7 n7
  |brk=>obtain⟨σ7,H7,I7,q7⟩:=q7;exact⟨σ7,H7,I7.iE,q7⟩
  |ret v=>obtain⟨x7,σ7,H7,I7,r7,q7⟩:=q7;exact⟨x7,σ7,H7,I7.iE,r7,q7⟩
end
abbrev R2:=V->V->Hp->VK->Prop
def jg(X:Cx)(f:Value->Value->Sem Value)(r:R2):Prop:=
 ∀(ah:List (Addr×Obj)) (s:Shared) (σ:St) (H:Hp) (x y:V) (v u:Value) (Q:VK),Inv X ah σ H s->RelV x v->RelV y u->r x y H Q->
  wpAny (model X.prog X.w) X.A (f v u) (EP X ah σ Q) X.xe s
def Ub(X:Cx)(f:Value->Sem Value)(r:V->Hp->VK->Prop):Prop:=
 ∀(ah:List (Addr×Obj)) (s:Shared) (σ:St) (H:Hp) (x:V) (v:Value) (Q:VK),Inv X ah σ H s->RelV x v->r x H Q->
  wpAny (model X.prog X.w) X.A (f v) (EP X ah σ Q) X.xe s
def dz(X:Cx)(f:Value)(r:List V->Hp->VK->Prop):Prop:=
 ∀(ah:List (Addr×Obj)) (s:Shared) (σ:St) (H:Hp) (xs:List V) (us:List Value) (Q:VK),Inv X ah σ H s->Vals xs us->r xs H Q->
  wpAny (model X.prog X.w) X.A (call f us) (EP X ah σ Q) X.xe s
def Vz(X:Cx)(r:V->Hp->(Bool->Hp->Prop)->Prop):Prop:=
 ∀(ah:List (Addr×Obj)) (s:Shared) (σ:St) (H:Hp) (x:V) (v:Value) (Q:Bool->Hp->Prop),Inv X ah σ H s->RelV x v->r x H Q->
  wpAny (model X.prog X.w) X.A (truthy v) (TP X ah σ Q) X.xe s
noncomputable def Uc(r:R2)(ta tb:TE):TE:=λσ H Q=>ta σ H λx H1=>tb σ H1 λy H2=>r x y H2 Q
def Y3(r:V->Hp->VK->Prop)(ta:TE):TE:=λσ H Q=>ta σ H λx H1=>r x H1 Q
noncomputable def rI(C:Int->Int->Prop)(g:Int->Int->V):R2:=λx y H Q=>∃i j,x=.int i/\y=.int j/\C i j/\Q (g i j) H
noncomputable def Eb(g:Int->Int->V):R2:=λx y H Q=>∃i j,x=.int i/\y=.int j/\Q (g i j) H
def rU(g:Int->V):V->Hp->VK->Prop:=λx H Q=>∃i,x=.int i/\Q (g i) H
section
variable{X:Cx}{a b c:Expr}{ta tb tc:TE}{pos:Pos}
theorem Kp(ha:PE X a ta)(hb:PE X b tb){ah:List (Addr×Obj)}{s:Shared}{σ:St}{H:Hp}{R:V->V->Hp->Prop}(I:Inv X ah σ H s)
  (h:ta σ H λx H1=>tb σ H1 λy H2=>R x y H2) {Q:Value->Shared->Prop}{f:Value->Value->Sem Value}
  (hf:∀v u s2 x y H2,Inv X ah σ H2 s2->RelV x v->RelV y u->R x y H2->wpAny (model X.prog X.w) X.A (f v u) Q X.xe s2) :
  wpAny (model X.prog X.w) X.A (eval a X.env) (λv s₁=>wpAny (model X.prog X.w) X.A (eval b X.env) (λu s₂=>wpAny (model X.prog X.w) X.A (f v u) Q X.xe s₂) X.xe s₁) X.xe s:=by
 refine bI (ha ah s σ H _ I h) λv s1 ⟨x,H1,I1,r1,q1⟩=>?_
 refine bI (hb ah s1 σ H1 _ I1 q1) λu s2 ⟨y,H2,I2,r2,q2⟩=>?_
 exact hf v u s2 x y H2 I2 r1 r2 q2
theorem QK{op:Operator}{r:R2}(ho:jg X (binaryOp op) r)(ha:PE X a ta)(hb:PE X b tb):PE X (.BinOp a op b pos) (Uc r ta tb):=by intro ah s σ H Q I h;exact wpAny_BinOp (Kp ha hb I h λv u s2 x y H2 I2 rx ry q=>ho ah s2 σ H2 x y v u Q I2 rx ry q)
theorem Jp{op:UnaryOp}{r:V->Hp->VK->Prop}(ho:Ub X (unaryOp op) r)(ha:PE X a ta):PE X (.UnaryOp op a pos) (Y3 r ta):=by intro ah s σ H Q I h;exact UnaryOp_ (bI (ha ah s σ H _ I h) λv s1 ⟨x,H1,I1,r1,q1⟩=>ho ah s1 σ H1 x v Q I1 r1 q1)
theorem Ud{f:Value->Value->Sem Value}{C:Int->Int->Prop}{g:Int->Int->Int}
  (rule:∀(i j:Int) (t u:Tok) (s:Shared) (Q:Value->Shared->Prop) (E:Value->Shared->Prop),C i j->Q (.int (g i j) s.toks) { s with toks:=s.toks+1}->wpAny (model X.prog X.w) X.A (f (.int i t) (.int j u)) Q E s) :
  jg X f (rI C λi j=>.int (g i j)):=by
 intro ah s σ H x y v u Q I rx ry h;obtain⟨i,j,rfl,rfl,hc,q⟩:=h;obtain⟨t,rfl⟩:=rx;obtain⟨t',rfl⟩:=ry;exact rule i j t t' s _ _ hc ⟨.int (g i j),H,I.tok _,⟨_,rfl⟩,q⟩
theorem QL{f:Value->Value->Sem Value}{g:Int->Int->Int}
  (rule:∀(i j:Int) (t u:Tok) (s:Shared) (Q:Value->Shared->Prop) (E:Value->Shared->Prop),Q (.int (g i j) s.toks) { s with toks:=s.toks+1}->wpAny (model X.prog X.w) X.A (f (.int i t) (.int j u)) Q E s) :
  jg X f (Eb λi j=>.int (g i j)):=by
 intro ah s σ H x y v u Q I rx ry h;obtain⟨i,j,rfl,rfl,q⟩:=h;obtain⟨t,rfl⟩:=rx;obtain⟨t',rfl⟩:=ry;exact rule i j t t' s _ _ ⟨.int (g i j),H,I.tok _,⟨_,rfl⟩,q⟩
theorem Eu{f:Value->Value->Sem Value}{g:Int->Int->Bool}
  (rule:∀(i j:Int) (t u:Tok) (s:Shared) (Q:Value->Shared->Prop) (E:Value->Shared->Prop),Q (.bool (g i j)) s->wpAny (model X.prog X.w) X.A (f (.int i t) (.int j u)) Q E s) :
  jg X f (Eb λi j=>.bl (g i j)):=by
 intro ah s σ H x y v u Q I rx ry h;obtain⟨i,j,rfl,rfl,q⟩:=h;obtain⟨t,rfl⟩:=rx;obtain⟨t',rfl⟩:=ry;exact rule i j t t' s _ _ ⟨.bl (g i j),H,I,rfl,q⟩
def VB(i j:Int):Prop:=0<j/\j<1073741824
def VD(i j:Int):Prop:=0<=j/\j<=1000000/\i.natAbs<2 ^ 64
def Kq(i j:Int):Prop:=(-(2 ^ 64)<i/\i<2 ^ 64)\/(-(2 ^ 64)<j/\j<2 ^ 64)
theorem Kq.ok{i j:Int}(h:Kq i j):IntMulOk i j:=by
 rcases h with ⟨h1,h2⟩ |⟨h1,h2⟩
 . exact .of_left (intBits_le_64 h1 h2)
 . exact .of_right (intBits_le_64 h1 h2)
theorem Kr:jg X (binaryOp .Add) (Eb λi j=>.int (i+j)):=QL λ_ _ _ _ _ _ _ q=>add_int q
theorem Ks:jg X (binaryOp .Sub) (Eb λi j=>.int (i - j)):=QL λ_ _ _ _ _ _ _ q=>sub_int q
theorem Ku:jg X (binaryOp .Mult) (rI Kq λi j=>.int (i * j)):=Ud λ_ _ _ _ _ _ _ hc q=>mul_int q hc.ok
theorem Ew:jg X (binaryOp .FloorDiv) (rI VB λi j=>.int (i / j)):=Ud λi j _ _ _ _ _ hc q=>by
 have h1:(0:Int)<j:=hc.1;have h2:j<1073741824:=hc.2;exact floordiv_int ⋯ (by rw[Int.fdiv_eq_ediv_of_nonneg i ⋯];exact q) (.inl (PyProof.noPylong_small ⋯))
theorem Kv:jg X (binaryOp .Mod) (rI (λ_ j=>0<j) λi j=>.int (i % j)):=Ud λi j _ _ _ _ _ hc q=>by
 have h1:(0:Int)<j:=hc;exact mod_int' ⋯ (by rw[Int.fmod_eq_emod_of_nonneg i ⋯];exact q)
theorem oR:jg X (binaryOp .Pow) (rI VD λi j=>.int (i ^ j.toNat)):=Ud λ_ _ _ _ _ _ _ hc q=>pow_int_small hc.1 hc.2.1 hc.2.2 q
theorem Y4{f:Value->Sem Value}{g:Int->Int}
  (rule:∀(i:Int) (t:Tok) (s:Shared) (Q:Value->Shared->Prop) (E:Value->Shared->Prop),Q (.int (g i) s.toks) { s with toks:=s.toks+1}->wpAny (model X.prog X.w) X.A (f (.int i t)) Q E s) :
  Ub X f (rU λi=>.int (g i)):=by
 intro ah s σ H x v Q I rx h;obtain⟨i,rfl,q⟩:=h;obtain⟨t,rfl⟩:=rx;exact rule i t s _ _ ⟨.int (g i),H,I.tok _,⟨_,rfl⟩,q⟩
theorem zq:Ub X (unaryOp .USub) (rU λi=>.int (-i)):=Y4 λ_ _ _ _ _ q=>neg_int q
end
section
variable{X:Cx}{a b c:Expr}{ta tb tc:TE}{pos:Pos}
theorem zu(I:Inv X ah σ H s)(q:Q (.bl k) H)(e:k=k'):EP X ah σ Q (.bool k') s:=by subst e;exact⟨.bl k,H,I,rfl,q⟩
theorem QM:jg X (compareOp .Lt) (Eb λi j=>.bl (decide (i<j))):=Eu λ_ _ _ _ _ _ _ q=>lt_int q
theorem QS:jg X (compareOp .LtE) (Eb λi j=>.bl (decide (i<=j))):=Eu λ_ _ _ _ _ _ _ q=>le_int q
theorem QT:jg X (compareOp .Gt) (Eb λi j=>.bl (decide (j<i))):=Eu λ_ _ _ _ _ _ _ q=>gt_int q
theorem QV:jg X (compareOp .GtE) (Eb λi j=>.bl (decide (j<=i))):=Eu λ_ _ _ _ _ _ _ q=>ge_int q
theorem Kw:jg X (compareOp .Is) (λx y H Q=>y=.non/\Q (.bl (decide (x=.non))) H):=by
 intro ah s σ H x y v u Q I rx ry h;obtain⟨rfl,q⟩:=h;cases ry;refine is_none_gen (zu I q ?_);cases x <;> first
  | (cases rx;rfl)
  | (obtain⟨t,rfl⟩:=rx;rfl)
theorem Ey:jg X (compareOp .IsNot) (λx y H Q=>y=.non/\Q (.bl (!decide (x=.non))) H):=by
 intro ah s σ H x y v u Q I rx ry h;obtain⟨rfl,q⟩:=h;cases ry;refine isnot_none_gen (zu I q ?_);cases x <;> first
  | (cases rx;rfl)
  | (obtain⟨t,rfl⟩:=rx;rfl)
theorem Ez{op:CmpOp}{r:R2}(ho:jg X (compareOp op) r)(ha:PE X a ta)(hb:PE X b tb)(hm:behindInMarks op b=false):PE X (.Compare a [op] [b] pos) (Uc r ta tb):=by intro ah s σ H Q I h;exact wpAny_Compare1 (Kp ha hb I h λv u s2 x y H2 I2 rx ry q=>ho ah s2 σ H2 x y v u Q I2 rx ry q) hm
def QW(t:TE):TT:=λσ H Q=>t σ H λx H'=>∃k,x=.bl k/\Q k H'
theorem EY{op:CmpOp}{r:R2}(ho:jg X (compareOp op) r)(ha:PE X a ta)(hb:PE X b tb)(hm:behindInMarks op b=false):PT X (.Compare a [op] [b] pos) (QW (Uc r ta tb)):=by
 intro ah s σ H Q I h;refine wpAny_isTrue_Compare1 (bI (ha ah s σ H _ I h) λv s1 ⟨x,H1,I1,r1,q1⟩=>bI (hb ah s1 σ H1 _ I1 q1) λu s2 ⟨y,H2,I2,r2,q2⟩=>
  bI (ho ah s2 σ H2 x y v u _ I2 r1 r2 q2) λc s3 ⟨z,H3,I3,r3,k,e,q3⟩=>?_) hm
 subst e;cases r3;exact nN ⟨H3,I3,q3⟩
def QX(K:Frag)(x:V)(H:Hp)(k:Bool):Prop:=
 match x with
 |.non=>k=false
 |.bl b=>k=b
 |.int i=>k=(i != 0)
 |.str y=>y.length<=sizeLine/\k=((y.length:Int) != 0)
 |.Jk y=>y.size<=sizeLine/\k=((y.size:Int) != 0)
 |.ref p=>(∃xs,bU K H p xs/\k=!xs.isEmpty)\/(∃xs,eZ K H p xs/\k=!xs.isEmpty)\/∃cG,H p=some (.dK cG)/\k=!cG.isEmpty
 |_=>False
theorem tR{κ:Type}{cG:List (κ×V)}{vs:List (κ×Value)}(r:KV cG vs):(!vs.isEmpty)=!cG.isEmpty:=by cases r <;> rfl
theorem kD{xs:List V}{its:List Value}(r:Vals xs its):(!its.toArray.isEmpty)=!xs.isEmpty:=by cases r <;> simp
theorem kF:(sizeLine:Nat)<2 ^ 63:=by rw[oC];decide
theorem Ky:Vz X (λx H Q=>∃k,QX X.K x H k/\Q k H):=by
 intro ah s σ H x v Q I rx h;obtain⟨k,e,q⟩:=h;have hl:=kF;have hs:sizeLine=16777216:=oC;cases x with
 |non=>cases rx;have e':k=false:=e;subst e';exact truthy_none ⟨H,I,q⟩
 |bl b=>cases rx;have e':k=b:=e;subst e';exact nN ⟨H,I,q⟩
 |int i=>obtain⟨t,rfl⟩:=rx;have e':k=(i != 0):=e;subst e';exact PySem.P.truthy_int ⟨H,I,q⟩
 |str y=>obtain⟨t,rfl⟩:=rx;obtain⟨hy,e'⟩:y.length<=sizeLine/\k=((y.length:Int) != 0):=e;subst e';exact PySem.P.truthy_str ⋯ ⟨H,I.tok _,q⟩
 |Jk y=>obtain⟨t,rfl⟩:=rx;obtain⟨hy,e'⟩:y.size<=sizeLine/\k=((y.size:Int) != 0):=e;subst e';exact PySem.W.truthy_bytes ⋯ ⟨H,I.tok _,q⟩
 |ref p=>
  cases rx;have e':(∃xs,bU X.K H p xs/\k=!xs.isEmpty)\/(∃xs,eZ X.K H p xs/\k=!xs.isEmpty)\/∃cG,H p=some (.dK cG)/\k=!cG.isEmpty:=e;rcases e' with ⟨xs,hx,e'⟩ |⟨xs,hx,e'⟩ |⟨cG,hx,e'⟩
  . subst e';obtain⟨its,r,pl,hz⟩:=I.list hx;have aF:=r.length;exact wpAny_truthy_list pl.isList (by simp only[dA];lia) ⟨H,I.tok _,by rw[kD r];exact q⟩
  . subst e';obtain⟨its,r,pl,hz⟩:=I.tuple hx;have aF:=r.length;exact truthy_tuple pl (by simp only[dA];lia) ⟨H,I.tok _,by rw[kD r];exact q⟩
  . subst e';obtain⟨hz,hS,vs,r,m⟩:cG.length<=sizeLine/\(p==sysModules)=false/\∃vs,KV cG vs/\s.heap.DictOf (eG X.prog X.w) p vs:=I.hok p _ hx;have aF:cG.length=vs.length:=Paired.length r;exact wpAny_truthy_dict hS m ⋯ ⟨H,I.tok _,by rw[tR r];exact q⟩
 |_=>exact (show False from e).elim
theorem zz(ha:PE X a ta)(he:∀whole,isTrue a X.env whole=(do let v <- whole;standAt a.pos;holding [v] (truthy v))) :
  PT X a (λσ H Q=>ta σ H λx H'=>∃k,QX X.K x H' k/\Q k H'):=by
 intro ah s σ H Q I h;exact isTrue_plain (bI (ha ah s σ H _ I h) λv s1 ⟨x,H1,I1,r1,q1⟩=>Ky ah s1 σ H1 x v Q I1 r1 q1) (he _)
theorem vals1(r:Vals [x] us):∃u,us=[u]/\RelV x u:=by
 cases r with
 |cons r1 r2=>cases r2;exact⟨_,rfl,r1⟩
theorem vals2(r:Vals [x,y] us):∃u w',us=[u,w']/\RelV x u/\RelV y w':=by
 cases r with
 |cons r1 r2=>
  cases r2 with
  |cons r3 r4=>cases r4;exact⟨_,_,rfl,r1,r3⟩
theorem wY(hc:X.calm=true):dz X (.builtin "max") (λxs H Q=>∃i j,xs=[.int i,.int j]/\Q (.int (if j > i then j else i)) H):=by
 intro ah s σ H xs us Q I r h;obtain⟨i,j,rfl,q⟩:=h;obtain⟨u,w',rfl,⟨t,rfl⟩,⟨t',rfl⟩⟩:=vals2 r;refine max_two_ints (I.ok.hd hc) λh' tk k=>⟨_,H,I.kept k,?_,q⟩
 by_cases hj:j > i
 . rw[fN hj,fN hj];exact⟨_,rfl⟩
 . rw[fI hj,fI hj];exact⟨_,rfl⟩
theorem wZ(hc:X.calm=true):dz X (.builtin "min") (λxs H Q=>∃i j,xs=[.int i,.int j]/\Q (.int (if j<i then j else i)) H):=by
 intro ah s σ H xs us Q I r h;obtain⟨i,j,rfl,q⟩:=h;obtain⟨u,w',rfl,⟨t,rfl⟩,⟨t',rfl⟩⟩:=vals2 r;refine min_two_ints (I.ok.hd hc) λh' tk k=>⟨_,H,I.kept k,?_,q⟩
 by_cases hj:j<i
 . rw[fN hj,fN hj];exact⟨_,rfl⟩
 . rw[fI hj,fI hj];exact⟨_,rfl⟩
theorem oU:dz X (.type "str") (λxs H Q=>∃i,xs=[.int i]/\i.natAbs.log2<1920/\Q (.str (toString i)) H):=by intro ah s σ H xs us Q I r h;obtain⟨i,rfl,hz,q⟩:=h;obtain⟨u,rfl,t,rfl⟩:=vals1 r;exact PySem.P.str_of_int hz ⟨.str _,H,I.tok _,⟨_,rfl⟩,q⟩
def VF(K:Frag)(x:V)(H:Hp)(n:Nat):Prop:=
 match x with
 |.str y=>y.length<=sizeLine/\n=y.length
 |.Jk y=>y.size<=sizeLine/\n=y.size
 |.ref p=>(∃xs,bU K H p xs/\n=xs.length)\/∃xs,eZ K H p xs/\n=xs.length
 |_=>False
theorem zA:dz X (.builtin "len") (λxs H Q=>∃x n,xs=[x]/\VF X.K x H n/\Q (.int n) H):=by
 intro ah s σ H xs us Q I r h;obtain⟨x,n,rfl,e,q⟩:=h;obtain⟨u,rfl,rx⟩:=vals1 r;have hl:=kF;have hs:sizeLine=16777216:=oC;cases x with
 |str y=>obtain⟨t,rfl⟩:=rx;obtain⟨hy,e'⟩:y.length<=sizeLine/\n=y.length:=e;subst e';exact len_str ⋯ ⟨.int _,H,I.tok _,⟨_,rfl⟩,q⟩
 |Jk y=>obtain⟨t,rfl⟩:=rx;obtain⟨hy,e'⟩:y.size<=sizeLine/\n=y.size:=e;subst e';exact PySem.W.len_bytes ⋯ ⟨.int _,H,I.tok _,⟨_,rfl⟩,q⟩
 |ref p=>
  cases rx;have e':(∃xs,bU X.K H p xs/\n=xs.length)\/∃xs,eZ X.K H p xs/\n=xs.length:=e;rcases e' with ⟨xs,hx,e'⟩ |⟨xs,hx,e'⟩
  . subst e';obtain⟨its,r',pl,hz⟩:=I.list hx;have aF:=r'.length;exact Calls.call_len_list pl.isList (by simp only[dA];lia) ⟨.int xs.length,H,I.tok _,⟨_,by simp only[dA];rw[aF]⟩,q⟩
  . subst e';obtain⟨its,r',pl,hz⟩:=I.tuple hx;have aF:=r'.length;exact len_tuple pl (by simp only[dA];lia) ⟨.int xs.length,H,I.tok _,⟨_,by simp only[dA];rw[aF]⟩,q⟩
 |_=>exact (show False from e).elim
end
structure dR(k:Nat)(A:Around):Prop where
 hd:A.handled=none
 dp:A.depth+3 * k+5<recursionLimit
 un:A.units+16 * k+200<cLine
theorem dR.deeper(r:dR (k+1) A)(env:Env):dR k (A.deeper env):=
 ⟨r.hd,by have:=r.dp;show A.depth+1+3 * k+5<_;lia,by have:=r.un;show A.units+3+16 * k+200<_;lia⟩
theorem dR.depth{k:Nat}{A:Around}(r:dR k A):A.depth<recursionLimit:=by have:=r.dp;lia
theorem dR.units{k:Nat}{A:Around}(r:dR k A):A.units+64<cLine:=by have:=r.un;lia
theorem dR.Kz{k:Nat}{A:Around}(r:dR k A):A.units<cLine:=by have:=r.un;lia
def VG:TA:=λ_ H Q=>Q [] H
noncomputable def QZ(ta:TE)(tr:TA):TA:=λσ H Q=>ta σ H λx H1=>tr σ H1 λxs H2=>Q (x::xs) H2
section
variable{X:Cx}{e:Expr}{es:List Expr}{te:TE}{t:TA}{pos:Pos}
theorem oV:PA X [] VG:=λ_ _ _ _ H Q I h=>Calls.spliced_nil ⟨[],H,I,.nil,h⟩
theorem eK(ha:PE X e te)(hr:PA X es t)(hs:starEach (e::es) X.env=(false,eval e X.env)::starEach es X.env:=by rfl):PA X (e::es) (QZ te t):=by
 intro pos ah s σ H Q I h;rw[hs];show wpAny _ _ (spliced ((false,eval e X.env)::backTo pos (starEach es X.env))) _ _ s;refine Calls.spliced_cons (bI (ha ah s σ H _ I h) λu s1 ⟨x,H1,I1,r1,q1⟩=>?_)
 exact bI (hr pos ah s1 σ H1 _ I1 q1) λus s2 ⟨xs,H2,I2,r2,q2⟩=>⟨x::xs,H2,I2,.cons r1 r2,q2⟩
def VH(t:TA):TE:=λσ H Q=>t σ H λxs H1=>xs.length<=sizeLine/\∀p,H1 p=none->Q (.ref p) (upd H1 p (.tup xs))
def VJ(t:TA):TE:=λσ H Q=>t σ H λxs H1=>xs.length<=sizeLine/\∀p,H1 p=none->Q (.ref p) (upd H1 p (.lst xs))
theorem tT{x1}(h:PA X es t):PE X (.Tuple es x1 pos) (VH t):=by
 intro ah s σ H Q I hq;refine wpAny_Tuple_spliced (bI (h pos ah s σ H _ I hq) λus s1 ⟨xs,H1,I1,r,z,q⟩=>⟨by rw[<- r.length];exact z,?_⟩)
 have hf:H1 s1⁻¹=none:=I1.hok.fresh (eA _);refine⟨.ref s1⁻¹,upd H1 s1⁻¹ (.tup xs),I1.laid (t':=s1.toks) (λb u e=>a9 _ e) (eA _) ?_,rfl,q _ hf⟩
 exact⟨z,us,r,⟨_,eC _ rfl,⟨rfl,_,rfl⟩,rfl⟩⟩
theorem KC(h:PA X es t):PE X (.List es pos) (VJ t):=by
 intro ah s σ H Q I hq;refine wpAny_List_spliced (bI (h pos ah s σ H _ I hq) λus s1 ⟨xs,H1,I1,r,z,q⟩=>⟨by rw[<- r.length];exact z,?_⟩)
 have hf:H1 s1⁻¹=none:=I1.hok.fresh (eA _);refine⟨.ref s1⁻¹,upd H1 s1⁻¹ (.lst xs),I1.laid (t':=s1.toks) (λb u e=>a9 _ e) (eA _) ?_,rfl,q _ hf⟩
 exact⟨z,us,0,r,eC _ rfl⟩
end
abbrev Sp:=List V->Hp->VK->XK->Prop
abbrev zB:=List Env->Hp->Shared->XK->Value->Shared->Prop
structure Fb(P:Program)(w:World)(K:Frag)(mg:Str->Option Value)(base:Heap)(A:Around)(outer:List Env)(s:Shared)(H:Hp):Prop where
 frames:A.frames=some outer
 mod:Mod K mg base
 bs:∀b o,base.get? b=some o->s.heap.get? b=some o/\H b=none
 Eo:base.objs.size<=s⁻¹
 jP:s.heap.FunFrames base outer
 J3:∀b∈frs outer,H b=none
 hok:kB P w H s.heap
 bare:AllBare s.gens
def CE(outer:List Env)(P:Program)(w:World)(H:Hp)(s:Shared)(Q:VK)(u:Value)(s':Shared):Prop:=
 ∃v H',s'.os=s.os/\AllBare s'.gens/\Un (frs outer) [] H H' s.heap s'.heap/\kB P w H' s'.heap/\RelV v u/\Q v H'
def CR(CX:zB)(outer:List Env)(P:Program)(w:World)(H:Hp)(s:Shared)(Q:VK)(E:XK)(r:Result)(s':Shared):Prop:=
 match r with
 |.ok (.ret u)=>CE outer P w H s Q u s'
 |.ok _=>False
 |.error e=>CX outer H s E e s'
structure mH(P:Program)(w:World)(K:Frag)(mg:Str->Option Value)(base:Heap)(CX:zB)(k:Nat)(f:Addr)(fd:FuncData)(ps:List Str)(sp:Sp):Prop where
 len:∀vs H Q E,sp vs H Q E->vs.length=ps.length
 run:∀(A:Around) (outer:List Env) (s:Shared) (H:Hp) (args:Args) (us:List Value) (vs:List V) (Q:VK) (E:XK),dR k A->Fb P w K mg base A outer s H->BindsTo s fd args (ps.zip us)->Vals vs us->sp vs H Q E->
  codeAny (model P w) A (.call (.ref f) args) (CR CX outer P w H s Q E) s
section
variable{X:Cx}{ah:List (Addr×Obj)}{σ:St}{H:Hp}{s s':Shared}
theorem Inv.VL(I:Inv X ah σ H s):Fb X.prog X.w X.K X.mg X.base X.A X.stack s H:=
 ⟨I.ok.frames,I.ok.mod,I.bs,l5 I.ok.Eo I.sz,I.stack,I.vj,I.hok,I.bare⟩
theorem Inv.after(I:Inv X ah σ H s)(h:CE X.stack X.prog X.w H s Q u s'):EP X ah σ Q u s':=by obtain⟨v,H',os,bare,un,hok,r,q⟩:=h;obtain⟨hh,g,d,t,os'⟩:=s';obtain rfl:os'=s.os:=os;exact⟨v,H',I.call (h':=hh) (g':=g) (d':=d) (t':=t) (ch:=[]) un hok bare (λb z=>absurd z ⋯),r,q⟩
end
noncomputable def Q5(sp:Sp)(qM:List V)(E:XK)(t:TA):TE:=λσ H Q=>t σ H λvs H1=>sp (vs++qM) H1 Q E
def Binds(K:Frag)(fd:FuncData)(ps:List Str)(ds:List Value):Prop:=
 ∀(s:Shared) (us:List Value),K.In s.heap->(us++ds).length=ps.length->BindsTo s fd ⟨us,[]⟩ (ps.zip (us++ds))
theorem Binds.all{K:Frag}{fd:FuncData}{ps:List Str}(h:∀us:List Value,us.length=ps.length->bindArgs fd ⟨us,[]⟩=pure (ps.zip us)):Binds K fd ps []:=λs us _ hl=>by
 rw[tP]at hl ⊢
 exact .of_eq (h us hl)
def Passes(CX:zB)(X:Cx)(E:XK):Prop:=∀(ah:List (Addr×Obj)) (σ:St) (H:Hp) (s:Shared) (e:Value) (s':Shared),Inv X ah σ H s->CX X.stack H s E e s'->X.xe e s'
section
variable{X:Cx}{CX:zB}{k:Nat}{f C:Addr}{fd:FuncData}{ps:List Str}{sp:Sp}{qM:List V}{ds:List Value}{E:XK}{x m:Str}{p pos eW:Pos}{e o:Expr}{es:List Expr}{ta:TE}{t:TA}
theorem KD{ah:List (Addr×Obj)}{σ:St}{H:Hp}{s:Shared}{Q:VK}{us:List Value}{vs:List V}(F:mH X.prog X.w X.K X.mg X.base CX k f fd ps sp)(hr:dR k X.A)(hb:Binds X.K fd ps ds)(hd:Vals qM ds)(hx:Passes CX X E)
  (I:Inv X ah σ H s) (r:Vals vs us) (h:sp (vs++qM) H Q E):wpAny (model X.prog X.w) X.A (call (.ref f) us) (EP X ah σ Q) X.xe s:=by
 have r2:Vals (vs++qM) (us++ds):=r.append hd;have hl:(us++ds).length=ps.length:=by rw[<- r2.length];exact F.len _ _ _ _ h
 refine wpAny_call (C3 (F.run X.A X.stack s H ⟨us,[]⟩ (us++ds) (vs++qM) Q E hr I.VL (hb s us I.qF hl) r2 h) λr s' hq=>?_)
 cases r with
 |error e=>exact hx ah σ H s e s' I hq
 |ok fl=>
  cases fl with
  |ret u=>exact I.after hq
  |next=>exact False.elim hq
  |brk=>exact False.elim hq
  |cont=>exact False.elim hq
theorem Fc(F:mH X.prog X.w X.K X.mg X.base CX k f fd ps sp)(hr:dR k X.A)(hg:Gl X x)(hm:X.mg x=some (.ref f))(hk:PySem.W.keepIn X.K (.ref f)=true)(hb:Binds X.K fd ps ds)(hd:Vals qM ds)(hx:Passes CX X E)
  (ha:PA X (e::es) t) (wK:(x==("__debug__":Str))=false:=by decide) (he:starEach (e::es) X.env=(false,eval e X.env)::starEach es X.env:=by rfl) (iA:(backTo pos (starEach es X.env)).any (·.1)=false:=by rfl) :
  PE X (.Call (.Name x p) (e::es) [] pos) (Q5 sp qM E t):=by
 intro ah s σ H Q I h;refine AU (vn I hg hm ?_ wK);refine PySem.W.callWith_K (h₀:=X.base) I.ok.mod.T6 hk (bI (ha pos ah s σ H _ I h) λus s1 ⟨vs,H1,I1,r,q⟩=>⟨I1.qF,?_⟩) he iA
 exact KD F hr hb hd hx I1 r q
end
structure dB(N P:List Str)(sc:Scope):Prop where
 kind:sc.kind=.function
 co:sc.isCoroutine=false
 gen:sc.isGenerator=false
 nd:N.Nodup
 pre:N.take P.length=P
 par:∀x∈P,sc.names.lookup x=some .local\/sc.names.lookup x=some .cell
 KH:∀y∈sc.names,y.2≠.free
theorem nu{kindOf:Str->Option NameKind}{x:Str}:∀{binds:List (Str×Value)}{m:Str->Option Value},(∀v,(x,v)∉binds)->bindL kindOf binds m x=m x
 | [],_,_=>rfl
 | (n,v)::r,m,h=>by
  unfold bindL;rw[nu λw hw=>h w (b0 _ hw)]
  split
  .
   have:x≠n:=by rintro rfl;exact h v dC
   simp[this]
  . rfl
theorem nB{kindOf:Str->Option NameKind}{x:Str}:∀{binds:List (Str×Value)}{m:Str->Option Value},(∀v,(x,v)∉binds)->bindC kindOf binds m x=m x
 | [],_,_=>rfl
 | (n,v)::r,m,h=>by
  unfold bindC;rw[nB λw hw=>h w (b0 _ hw)]
  split
  . rfl
  .
   have:x≠n:=by rintro rfl;exact h v dC
   simp[this]
theorem nD{kindOf:Str->Option NameKind}{x:Str}{v:Value}:∀{P:List Str}{vs:List Value}{i:Nat}{m:Str->Option Value},P.Nodup->P[i]?=some x->vs[i]?=some v->kindOf x=some .local->
  bindL kindOf (P.zip vs) m x=some v
 | [],_,_,_,_,h,_,_=>by simp at h
 |_::_,[],_,_,_,_,h,_=>by simp at h
 |p::P,w::vs,0,m,nd,h1,h2,hk=>by
  simp at h1 h2;subst h1;subst h2;show bindL kindOf ((p,w)::P.zip vs) m p=_;unfold bindL;rw[nu λv hv=>(i3.mp nd).1 (CL hv).1,fN hk]
  simp
 |p::P,w::vs,i+1,m,nd,h1,h2,hk=>by
  show bindL kindOf ((p,w)::P.zip vs) m x=_;unfold bindL;exact nD (i:=i) (i3.mp nd).2 (by simpa using h1) (by simpa using h2) hk
theorem nF{kindOf:Str->Option NameKind}{x:Str}{v:Value}:∀{P:List Str}{vs:List Value}{i:Nat}{m:Str->Option Value},P.Nodup->P[i]?=some x->vs[i]?=some v->kindOf x≠some .local->
  bindC kindOf (P.zip vs) m x=some v
 | [],_,_,_,_,h,_,_=>by simp at h
 |_::_,[],_,_,_,_,h,_=>by simp at h
 |p::P,w::vs,0,m,nd,h1,h2,hk=>by
  simp at h1 h2;subst h1;subst h2;show bindC kindOf ((p,w)::P.zip vs) m p=_;unfold bindC;rw[nB λv hv=>(i3.mp nd).1 (CL hv).1,fI hk]
  simp
 |p::P,w::vs,i+1,m,nd,h1,h2,hk=>by
  show bindC kindOf ((p,w)::P.zip vs) m x=_;unfold bindC;exact nF (i:=i) (i3.mp nd).2 (by simpa using h1) (by simpa using h2) hk
noncomputable def start(N:List Str)(vs:List V):St:=vs.map some++List.replicate (N.length - vs.length) none
noncomputable def qN(CX:zB)(P:Program)(w:World)(K:Frag)(mg:Str->Option Value)(base:Heap)(N:List Str)(qual:Str)(scope:Scope)(f:Addr)(cd:Value)(A:Around)(outer:List Env)(s:Shared)(H:Hp)(E:XK):Cx where
 prog:=P
 w:=w
 K:=K
 mg:=mg
 base:=base
 A:=A.deeper (envOfC qual scope s⁻¹ f cd)
 N:=N
 s₀:=s
 H₀:=H
 env:=envOfC qual scope s⁻¹ f cd
 outer:=outer
 stack:=envOfC qual scope s⁻¹ f cd::outer
 ex:=[]
 calm:=true
 fn:=λ_=>true
 pn:=[]
 xe:=λe s'=>wpAny (model P w) (A.deeper (envOfC qual scope s⁻¹ f cd)) (leaving (envOfC qual scope s⁻¹ f cd) e) (λ_ s''=>CX outer H s E e s'') (λe' s''=>CX outer H s E e' s'') s'
theorem qO{sc:Scope}{n:Nat}{x:Str}(h:sc.names.lookup x=some .cell):∃c,(cellsFrom n sc.names []).lookup x=some c:=by have q:=PySem.W.cellsFrom_some sc.names n [] (.inl h);exact Option.isSome_iff_exists.mp q
theorem xg{CX:zB}{P:Program}{w:World}{K:Frag}{mg:Str->Option Value}{base:Heap}{N ps:List Str}{qual:Str}{scope:Scope}{f:Addr}{cd:Value}{A:Around}{outer:List Env}{s s1:Shared}{H:Hp}{E:XK}{us:List Value}{vs:List V}
  (S:dB N ps scope) (hd:A.handled=none) (e0:Fb P w K mg base A outer s H) (hl:vs.length=ps.length) (r:Vals vs us)
  (x:InCallC s s⁻¹ (bindL (envOfC qual scope s⁻¹ f cd).kindOf (ps.zip us) λ_=>none) (cellsFrom (s⁻¹+1) scope.names []) (bindC (envOfC qual scope s⁻¹ f cd).kindOf (ps.zip us) λ_=>none) s1) :
  Inv (qN CX P w K mg base N qual scope f cd A outer s H E) [] (start N vs) H s1:=by
 have iA:ps.length<=N.length:=by have:=congrArg List.length S.pre;rw[rV]at this;lia
 obtain⟨h1,tk,rfl,hk⟩:=x.done;have Q6:∀b:Addr,b∉(qN CX P w K mg base N qual scope f cd A outer s H E).ex:=λb z=>absurd (show b∈([]:List Addr)from z) ⋯
 refine⟨⟨e0.mod,S.kind,rfl,rfl,eA _,λy z c h1 h2=>?_,λy hy=>?_,λy c _ h=>?_,λ_=>hd,Around.frames_deeper e0.frames,.inr ⟨rfl,rfl⟩,λb z=>absurd z (Q6 b),e0.bs,e0.Eo,λb _ _=>Q6 b,λb z=>absurd z (Q6 b),e0.jP,e0.J3⟩,
  rfl,e0.bare,Un.kept hk,⟨_,x.toInCall.ns,λi y v h1 h2 h3=>?_⟩,λy c h=>⟨_,x.cell y c h⟩,e0.hok.fresh (eA _),λy c h=>?_,λp hp=>absurd (show p∈([]:List (Addr×Obj))from hp) ⋯,e0.hok.kept hk,?_⟩
 . exact name_of_addr x.apart (AL h1) (AL h2)
 .
  have hy:scope.names.lookup y=some .cell\/scope.names.lookup y=some .free:=hy;rcases hy with hy |hy
  . exact qO hy
  . exact absurd rfl (S.KH _ (AL hy))
 . exact C2 (x.above y c (AL h))
 .
  have hi:i<vs.length:=by
   unfold start at h2;by_cases hi:i<vs.length
   . exact hi
   .
    rw[eD (by simpa using hi)]at h2
    rw[List.getElem?_replicate]at h2;split at h2 <;> cases h2
  have ha:vs[i]?=some v:=by
   unfold start at h2;rw[dL (by simpa using hi),mP]at h2
   cases e:vs[i]? with
   |none=>rw[e]at h2;cases h2
   |some a=>rw[e]at h2;cases h2;rfl
  obtain⟨u,hu,rv⟩:=r.get ha;have hp:ps[i]?=some y:=by rw[<- S.pre,sR ⋯];exact h1
  have Q7:ps.Nodup:=by rw[<- S.pre];exact S.nd.sublist (List.take_sublist _ _)
  refine⟨u,rv,?_⟩;rcases S.par y (mB hp)with k |k
  . exact .inl ⟨k,nD Q7 hp hu k⟩
  .
   obtain⟨c,e⟩:=qO (n:=s⁻¹+1) k;refine .inr ⟨.inl k,c,e,?_⟩;have q:=x.cell y c e;rw[nF Q7 hp hu (by show scope.names.lookup y≠_;rw[k];decide)]at q
   exact q
 . exact e0.hok.fresh (C2 (x.above y c (AL h)))
 . unfold start;show _=N.length;rw[eQ,gL,mI];lia
theorem Q8{CX:zB}{P:Program}{w:World}{K:Frag}{mg:Str->Option Value}{base:Heap}{k:Nat}{f:Addr}{name qual:Str}{params:Arguments}{body:List Stmt}{scope:Scope}{dV kV doc pm dG ct oc:Value}{an od:Option Addr}
  {osl:Array (Option Value)}{N ps:List Str}{sp:Sp} (lk:K.lookup f=some ⟨oc,od,.func (PySem.W.fnOf name qual params body scope dV kV doc pm an dG ct),osl⟩) (cM:PySem.W.codeIn K dG qual=true) (S:dB N ps scope)
  (len:∀vs H Q E,sp vs H Q E->vs.length=ps.length)
  (hbody:∀(A:Around) (outer:List Env) (s:Shared) (H:Hp) (vs:List V) (Q:VK) (E:XK),dR k (A.deeper (envOfC qual scope s⁻¹ f dG))->sp vs H Q E->
   ∃t,qI (qN CX P w K mg base N qual scope f dG A outer s H E) body t/\t { nx:=λ_ H'=>Q .non H',rt:=Q} (start N vs) H) :
  mH P w K mg base CX (k+1) f (PySem.W.fnOf name qual params body scope dV kV doc pm an dG ct) ps sp:=by
 refine⟨len,λA outer s H args us vs Q E hr e0 hb r P5=>?_⟩
 have hl:=len _ _ _ _ P5;have KX:K.In s.heap:=e0.mod.T6.keeps λb o e=>(e0.bs b o e).1
 have lim:s.heap.NoLimit:=e0.mod.nolimit.keeps λb o e=>(e0.bs b o e).1
 have hkind:∀y∈ps.zip us,scope.names.lookup y.1=some .local\/(scope.names.lookup y.1=some .cell/\((cellsFrom (s⁻¹+1) scope.names []).lookup y.1).isSome=true):=λ⟨n,v⟩ hy=>by
  rcases S.par n (CL hy).1 with q |q
  . exact .inl q
  . exact .inr ⟨q,PySem.W.cellsFrom_some _ _ _ (.inl q)⟩
 refine codeAny_call_function hr.depth (KX _ _ lk) rfl S.co S.gen rfl (PySem.W.codeRec_of KX cM) (hb _ _ _ _ ?_);refine wpAny_newFunctionEnv_cells S.kind hkind λenv he s1 x=>?_
 subst he;refine⟨lim.keeps x.toInCall.keep,codeAny_func ?_⟩;obtain⟨t,ht,hq⟩:=hbody A outer s H vs Q E (hr.deeper _) P5;have I:Inv (qN CX P w K mg base N qual scope f dG A outer s H E) [] (start N vs) H s1:=xg S hr.hd e0 hl r x;refine nK (ht [] s1 (start N vs) H _ I hq) (λfl s' hs=>?_) λe s' hs=>hs
 have fin:∀{σ':St}{H':Hp}{v:V}{u:Value},Inv (qN CX P w K mg base N qual scope f dG A outer s H E) [] σ' H' s'->RelV v u->Q v H'->CE outer P w H s Q u s':=
  λ{σ' H' v u} J rv q=>⟨v,H',J.os,J.bare,J.base,J.hok,rv,q⟩
 cases fl with
 |ret u=>obtain⟨v,σ',H',J,rv,q⟩:=hs;exact fin J rv q
 |next=>obtain⟨σ',H',J,q⟩:=hs;exact fin (v:=V.non) (u:=Value.none) J rfl q
 |brk=>obtain⟨_,_,_,q⟩:=hs;exact False.elim q
 |cont=>obtain⟨_,_,_,q⟩:=hs;exact False.elim q
section
variable{X:Cx}{x:Str}{p pos:Pos}{e:Expr}{es:List Expr}{t:TA}{id T:String}{r:List V->Hp->VK->Prop}
noncomputable def XC(r:List V->Hp->VK->Prop)(t:TA):TE:=λσ H Q=>t σ H λvs H1=>r vs H1 Q
theorem kG(hc:dz X (.builtin id) r)(hg:Gl X x)(hm:X.mg x=none)(hv:bootBuiltins x=some (.builtin id))(ha:PA X (e::es) t)(hn:x≠ "__name__" :=by decide)(wK:(x==("__debug__":Str))=false:=by decide)
  (he:starEach (e::es) X.env=(false,eval e X.env)::starEach es X.env:=by rfl) (iA:(backTo pos (starEach es X.env)).any (·.1)=false:=by rfl):PE X (.Call (.Name x p) (e::es) [] pos) (XC r t):=by
 intro ah s σ H Q I h;refine AU (dJ I hg hm hv ?_ hn wK);exact PyProof.Rows.callWith_builtin1 (bI (ha pos ah s σ H _ I h) λus s1 ⟨vs,H1,I1,r1,q1⟩=>hc ah s1 σ H1 vs us Q I1 r1 q1) he iA
theorem xm(hc:dz X (.type T) r)(hg:Gl X x)(hm:X.mg x=none)(hv:bootBuiltins x=some (.type T))(ha:PA X (e::es) t)(hn:x≠ "__name__" :=by decide)(wK:(x==("__debug__":Str))=false:=by decide)
  (he:starEach (e::es) X.env=(false,eval e X.env)::starEach es X.env:=by rfl) (iA:(backTo pos (starEach es X.env)).any (·.1)=false:=by rfl):PE X (.Call (.Name x p) (e::es) [] pos) (XC r t):=by
 intro ah s σ H Q I h;refine AU (dJ I hg hm hv ?_ hn wK);exact mN (bI (ha pos ah s σ H _ I h) λus s1 ⟨vs,H1,I1,r1,q1⟩=>hc ah s1 σ H1 vs us Q I1 r1 q1) he iA
end
end L2
namespace HT
open PySem PyProof.Rows
noncomputable def lexLt:List Int->List Int->Bool
 | [],[]=>false
 | [],_::_=>true
 |_::_,[]=>false
 |x::xs,y::ys=>if x=y then lexLt xs ys else decide (x<y)
theorem bY(x y:Int)(xs ys:List Int):lexLt (x::xs) (y::ys)=if x=y then lexLt xs ys else decide (x<y):=rfl
theorem mJ:lexLt [] []=false:=rfl
theorem kH(y:Int)(ys:List Int):lexLt [] (y::ys)=true:=rfl
theorem kI(x:Int)(xs:List Int):lexLt (x::xs) []=false:=rfl
theorem zC(A:Around)(s:Shared)(a:Int)(t:Tok)(c:Int)(u:Tok):∃e,SeqAt.EqAt A s (.int a t) (.int c u) e/\(e=true ↔ a=c):=
 ⟨(a==c),SeqAt.EqAt.int_int a t c u,by simp⟩
theorem zD(A:Around)(s:Shared)(a:Int)(t:Tok)(c:Int)(u:Tok)(prog:Program)(w:World)(E:Value->Shared->Prop)(Q:Value->Shared->Prop)(h:Q (.bool (decide (a<c))) s) :
  wpAny (model prog w) A (richCompare .Lt (.int a t) (.int c u)) Q E s:=
 (PyProof.Rows.lt_int h:wpAny (model prog w) A (compareOp .Lt (.int a t) (.int c u)) Q E s)
section
open PySem.SeqAt
open PySem.AutoSeq1 (wpAny_loadPart')
open PySem.MeetsSeq PySem.MeetsSeq2 PySem.MeetsSeq3
theorem mK(l b:Addr)(items items2:Array Value)(n n2:Nat)(dd dd2:Option Addr)(sl sl2:Array (Option Value))(ns ms:List Int)(hi:IntsAre items.toList ns)(hj:IntsAre items2.toList ms) :
  Meets (Builtin.«tuple.__lt__» ⟨[.ref l,.ref b],[]⟩)
   (λ_ R s=>s.heap.get? l=some { cls:=.type "tuple",dict:=dd,data:=.seq items n,slots:=sl}/\s.heap.get? b=some { cls:=.type "tuple",dict:=dd2,data:=.seq items2 n2,slots:=sl2}/\
    R (.ok (.ret (.bool (lexLt ns ms)))) s):=
 .of_wp λprog w A R s h=>by
  obtain⟨hp,g,d,tk,os⟩:=s;obtain⟨hl,hb,h⟩:=h;have f2:=AutoSeq1.sub_tuple_tuple;have z1:items.size=ns.length:=by rw[<- hi.length];simp
  have z2:items2.size=ms.length:=by rw[<- hj.length];simp
  wp_walk using wpAny_loadPart' hl,wpAny_loadPart' hb,B9 _ (λrest b s'=>b.1=none/\s'=⟨hp,g,d,tk,os⟩/\∃(vs ws:List Value) (ns' ms':List Int),rest=vs.zip ws/\
   IntsAre vs ns'/\IntsAre ws ms'/\ns'.length+items2.size=ms'.length+items.size/\R (.ok (.ret (.bool (lexLt ns' ms')))) ⟨hp,g,d,tk,os⟩) _
  case turn=>
   rintro⟨y,x⟩ rest b s' ⟨hb',rfl,vs,ws,ns',ms',hz,VM,hwi,aF,hR⟩;cases VM with
   |nil=>rw[List.zip_nil_left]at hz;cases hz
   |cons a t VN=>
    cases hwi with
    |nil=>rw[List.zip_nil_right]at hz;cases hz
    |cons c u VP=>
     rw[AV]at hz;injection hz with hyx hrest;injection hyx with hy hx;subst hy hx;rw[bY]at hR;simp only[i6]at aF;obtain⟨e,he,hiff⟩:=zC A.in1 ⟨hp,g,d,tk,os⟩ a t c u;refine aS (he prog w _ _ ?_);cases e with
     |true=>
      rw[fN (hiff.mp rfl)]at hR
      wp_walk
      exact⟨rfl,rfl,_,_,_,_,hrest,VN,VP,by lia,hR⟩
     |false=>
      rw[fI (λq=>absurd (hiff.mpr q) kS)]at hR
      have Y5:=zD A.in1 ⟨hp,g,d,tk,os⟩ a t c u prog w
      wp_walk using Y5
      exact⟨_,rfl,by simpa using hR⟩
  case fin=>
   rintro⟨b1,b2⟩ s' ⟨hb',rfl,vs,ws,ns',ms',hz,VM,hwi,aF,hR⟩;simp only at hb';subst hb';have hv:lexLt ns' ms'=decide (items.size<items2.size):=by
    cases VM with
    |nil=>
     cases hwi with
     |nil=>simp only[AF]at aF;rw[mJ];exact (qS ⋯).symm
     |cons c u hw=>simp only[AF,i6]at aF;rw[kH];exact (sT ⋯).symm
    |cons a t hv=>
     cases hwi with
     |nil=>simp only[AF,i6]at aF;rw[kI];exact (qS ⋯).symm
     |cons c u hw=>rw[AV]at hz;cases hz
   rw[hv]at hR
   wp_walk
   exact⟨_,rfl,by simpa [Builtin.Tuple.tupleCompareSizes]using hR⟩
  case h=>exact⟨rfl,rfl,items.toList,items2.toList,ns,ms,rfl,hi,hj,by lia,h⟩
end
section
variable{prog:Program}{w:World}{A:Around}{E:Value->Shared->Prop}{s:Shared}
theorem tU(hl:IsTup s.heap l items)(hb:IsTup s.heap b items2)(hi:IntsAre items.toList ns)(hj:IntsAre items2.toList ms)
  (hu:A.units<cLine) (h:Q (.bool (lexLt ns ms)) s):wpAny (model prog w) A (compareOp .Lt (.ref l) (.ref b)) Q E s:=by
 obtain⟨⟨cls,dd,data,sl⟩,ho,hc,n,hd⟩:=id hl;obtain⟨⟨Q9,dd2,data2,sl2⟩,ho2,hc2,n2,hd2⟩:=id hb;simp only at hc hd hc2 hd2;subst hc hd hc2 hd2;exact richCompare_meets_room (op:=.Lt) ⟨_,ho,rfl⟩ ⟨_,ho2,rfl⟩ PySem.F.slot_tuple_lt PySem.F.entry_tuple_lt (PySem.F.args_tuple_lt_2 _ _) (mK l b items items2 n n2 dd dd2 sl sl2 ns ms hi hj)
  ⟨ho,ho2,show Value.bool (lexLt ns ms)≠Value.notImplemented/\Q (.bool (lexLt ns ms)) s from⟨(λx=>nomatch x),h⟩⟩ hu
theorem Fd(ht:IsTup s.heap t vs.toArray)(hb:IsTup s.heap b ws.toArray)(hv:vs≠[])
  (h1:ws=[]->Q (.ref t) s) (h2:ws≠[]->Q (.ref s⁻¹) { s with heap:=s.heap.push { cls:=.type "tuple",data:=.seq (vs++ws).toArray}})
  (tK:vs.length+ws.length<=sizeLine):wpAny (model prog w) A (binaryOp .Add (.ref t) (.ref b)) Q E s:=by
 obtain⟨⟨cls,dd,data,sl⟩,ho,hc,n,hd⟩:=id ht;obtain⟨⟨Q9,dd2,data2,sl2⟩,ho2,hc2,n2,hd2⟩:=id hb;simp only at hc hd hc2 hd2;subst hc hd hc2 hd2;have e:vs.toArray++ws.toArray=(vs++ws).toArray:=by simp
 by_cases hw:ws=[]
 .
  exact concat_meets ⟨_,ho,rfl⟩ ⟨_,ho2,rfl⟩ noFill_tuple_add seq_tuple_add BO BD (Bn _ _)
   (tuple_addW1 t b vs.toArray ws.toArray n n2 dd dd2 sl sl2 (by simpa using hv) (by simp[hw])) ⟨ho,ho2,h1 hw⟩
 .
  refine concat_meets ⟨_,ho,rfl⟩ ⟨_,ho2,rfl⟩ noFill_tuple_add seq_tuple_add BO BD (Bn _ _)
   (tuple_addW2 t b vs.toArray ws.toArray n n2 dd dd2 sl sl2 (by simpa using hv) (by simpa using hw) (by rw[dA,dA];exact tK)) ⟨ho,ho2,?_⟩
  rw[e];exact h2 hw
noncomputable def bD(n d:Nat):Option Int->Nat
 |none=>d
 |some v=>if v<0 then (v+(n:Int)).toNat else min v.toNat n
theorem KJ(n d:Nat)(hd:d<=n)(o:Option Int):bD n d o<=n:=by
 cases o with
 |none=>exact hd
 |some v=>
  show (if v<0 then (v+(n:Int)).toNat else min v.toNat n)<=n
  by_cases hv:v<0
  . rw[fN hv];lia
  . rw[fI hv];exact Nat.min_le_right _ _
theorem vA(v:Int)(n d:Nat):(if v<0 then max (v+(n:Int)) 0 else min v (n:Int))=((bD n d (some v):Nat):Int):=by
 show (if v<0 then max (v+(n:Int)) 0 else min v (n:Int))=(((if v<0 then (v+(n:Int)).toNat else min v.toNat n):Nat):Int)
 by_cases hv:v<0
 . simp only[fN hv];lia
 . simp only[fI hv];lia
theorem tV(lo hi:Option Int)(n:Nat):Builtin.Slice.sliceAdjust lo hi 1 (n:Int)=(((bD n 0 lo:Nat):Int),((bD n n hi:Nat):Int)):=by
 have h1 : ¬ ((1:Int)<0):=by lia
 unfold Builtin.Slice.sliceAdjust;simp only[h1,CB];refine Prod.ext ?_ ?_
 .
  cases lo with
  |none=>rfl
  |some v=>exact vA v n 0
 .
  cases hi with
  |none=>rfl
  |some v=>exact vA v n n
theorem tW(i j:Nat):Builtin.Slice.slicePlaces (i:Int) (j:Int) 1=j - i:=by
 unfold Builtin.Slice.slicePlaces;have h1:(1:Int) > 0:=by lia
 simp only[h1,A9,Int.ediv_one];split <;> lia
theorem gQ(p:IsPart v o)(h:Q o s):wpAny (model prog w) A (Builtin.Slice.slicePartIndex v) Q E s:=by
 cases p with
 |none=>exact slicePart_none h
 |int i t=>exact slicePart_int h
theorem dU{sl:Addr}{vl vu:Value}{lo hi:Option Int}{n:Nat}{Q:Int×Int×Nat->Shared->Prop}(hs:s.heap.IsSliceOf sl vl vu .none)(pl:IsPart vl lo)(pu:IsPart vu hi)
  (h:Q (((bD n 0 lo:Nat):Int),1,bD n n hi - bD n 0 lo) s):wpAny (model prog w) A (Builtin.Slice.sliceApplied (.ref sl) (pure (n:Int))) Q E s:=by
 obtain⟨os,hos,hcs,hds⟩:=id hs;unfold Builtin.Slice.sliceApplied Builtin.Slice.sliceFields;refine aS (aS (oD hos hds (x:=vl) rfl (aS (oD hos hds (x:=vu) rfl (aS (oD hos hds (x:=.none) rfl (bP ?_)))))));refine aS (slicePart_none ?_);show wpAny _ _ (if ((1:Int)==0)=true then _ else _) _ _ s
 rw[fI ⋯];refine aS (gQ pl (aS (gQ pu (aS (bP ?_)))));show wpAny _ _ (match Builtin.Slice.sliceAdjust lo hi 1 (n:Int)with | (lo,hi)=>pure (lo,(1:Int),Builtin.Slice.slicePlaces lo hi 1)) _ _ s
 rw[tV lo hi n];show wpAny _ _ (pure (((bD n 0 lo:Nat):Int),(1:Int),Builtin.Slice.slicePlaces ((bD n 0 lo:Nat):Int) ((bD n n hi:Nat):Int) 1)) _ _ s;rw[tW];exact bP h
theorem zE(xs:Array Value)(i k:Nat):((List.range k).filterMap λ(m:Nat)=>xs[((i:Int)+(m:Int) * 1).toNat]?).toArray=((xs.toList.drop i).take k).toArray:=by
 have e:(λ(m:Nat)=>xs[((i:Int)+(m:Int) * 1).toNat]?)=λm=>xs[i+m]?:=by
  funext m
  have:((i:Int)+(m:Int) * 1).toNat=i+m:=by lia
  rw[this]
 rw[e];have:=pick_run xs i k;rw[List.filterMap_map]at this;have e2:((λx=>xs[x]?) ∘ λx=>i+x)=λm=>xs[i+m]?:=rfl
 rw[e2]at this;rw[this]
theorem iF{t sl:Addr}{items:Array Value}{vl vu:Value}{lo hi:Option Int}{Q:Value->Shared->Prop}(ht:IsTup s.heap t items)(hs:s.heap.IsSliceOf sl vl vu .none)(pl:IsPart vl lo)(pu:IsPart vu hi)
  (hw : ¬ (bD items.size 0 lo=0/\bD items.size items.size hi=items.size))
  (h:Q (.ref s⁻¹) { s with heap:=s.heap.push { cls:=.type "tuple",data:=.seq ((items.toList.drop (bD items.size 0 lo)).take (bD items.size items.size hi - bD items.size 0 lo)).toArray}})
  (tK:items.size<=sizeLine):wpAny (model prog w) A (getItem (.ref t) (.ref sl)) Q E s:=by
 have iG:sizeOk (.seq ((items.toList.drop (bD items.size 0 lo)).take (bD items.size items.size hi - bD items.size 0 lo)).toArray):=by show ((items.toList.drop (bD items.size 0 lo)).take (bD items.size items.size hi - bD items.size 0 lo)).toArray.size<=sizeLine;rw[dA,rV,List.length_drop,h9];lia
 have hj:bD items.size items.size hi<=items.size:=KJ _ _ (eA _) hi;obtain⟨os,hos,hcs,hds⟩:=id hs;have Ra:s.TypeIs (.ref sl) "slice" :=⟨os,hos,hcs⟩;unfold getItem
 try with_reducible refine i7 ?_
 first |refine aS (bP ?_) |skip
 refine aS (wpAny_sequenceKey ht.typeIs ⋯ ?_);refine aS (mM (name:=Str.ofString "__getitem__") ht.typeIs nE
  (mE nE ht.typeIs entry_tuple_getitem ?_ (args_tuple_getitem _ _)))
 show wpAny _ _ (Builtin.Tuple.tupleItemsOf (.ref t) >>= _) _ _ s;refine aS (tupleItemsOf_ ht ?_);refine aS (AJ Ra ?_);rw[fN ⋯];refine aS (dU hs pl pu ?_);have hno : ¬ ((((bD items.size 0 lo:Nat):Int)==0&&(1:Int)==1&&(bD items.size items.size hi - bD items.size 0 lo)==items.size)=true):=by intro q;rw[eJ,eJ]at q;have q1:((bD items.size 0 lo:Nat):Int)=0:=eq_of_beq q.1.1;have q2:bD items.size items.size hi - bD items.size 0 lo=items.size:=eq_of_beq q.2;exact hw ⟨by lia,by lia⟩
 show wpAny _ _ (if (((bD items.size 0 lo:Nat):Int)==0&&(1:Int)==1&&(bD items.size items.size hi - bD items.size 0 lo)==items.size)=true then _ else _) _ _ s
 rw[fI hno,zE]
 first
  |exact aS (m:=Builtin.Tuple.tupleExact _) (lL (bP ⟨_,rfl,bP h⟩) iG)
  |exact aS (m:=Builtin.Tuple.tupleExact _) (lL (aS (bP (bP ⟨_,rfl,bP h⟩))) iG)
  |exact aS (aS (m:=Builtin.Tuple.tupleExact _) (lL (bP (bP ⟨_,rfl,bP h⟩)) iG))
  |exact aS (aS (m:=Builtin.Tuple.tupleExact _) (lL (bP ⟨_,rfl,bP h⟩) iG))
end
end HT
namespace L2
abbrev TO:=St->Hp->(Option Int->Hp->Prop)->Prop
def PO(X:Cx)(e:Option Expr)(t:TO):Prop:=
 ∀(ah:List (Addr×Obj)) (s:Shared) (σ:St) (H:Hp) (Q:Option Int->Hp->Prop),Inv X ah σ H s->t σ H Q->
  wpAny (model X.prog X.w) X.A (evalPart e X.env) (λu s'=>∃o H',Inv X ah σ H' s'/\IsPart u o/\Q o H') X.xe s
def Fe:TO:=λ_ H Q=>Q none H
def Rb(t:TE):TO:=λσ H Q=>t σ H λx H1=>∃i,x=.int i/\Q (some i) H1
theorem intsAre_of:∀{us:List Value},Vals (ns.map V.int) us->IntsAre us ns:=by
 induction ns with
 |nil=>intro us r;rw[List.map_nil]at r;cases r;exact .nil
 |cons n ns ih=>
  intro us r;rw[List.map_cons]at r;cases r with
  |cons r1 r2=>obtain⟨t,e⟩:=r1;subst e;exact .cons n t (ih r2)
section
variable{X:Cx}{e:Expr}{te:TE}{lo hi:Option Expr}{tl th:TO}{pos p2:Pos}
theorem Ff:PO X none Fe:=by intro ah s σ H Q I h;rw[evalPart_none];exact bP ⟨none,H,I,.none,h⟩
theorem Fg(h:PE X e te):PO X (some e) (Rb te):=by
 intro ah s σ H Q I hw;rw[evalPart_some];refine bI (h ah s σ H _ I hw) λu s1 ⟨x,H1,I1,r1,q1⟩=>?_
 obtain⟨i,rfl,q⟩:=q1;obtain⟨t,rfl⟩:=r1;exact⟨some i,H1,I1,.int i t,q⟩
def Ue(X:Cx)(r:V->Option Int->Option Int->Hp->VK->Prop):Prop:=
 ∀(ah:List (Addr×Obj)) (s:Shared) (σ:St) (H:Hp) (x:V) (v vl vu:Value) (lo hi:Option Int) (sl:Addr) (Q:VK),Inv X ah σ H s->RelV x v->s.heap.IsSliceOf sl vl vu .none->IsPart vl lo->IsPart vu hi->r x lo hi H Q->
  ∃T id,typeLookup (.type T) "__getitem__"=pure (some (.builtin id))/\s.TypeIs v T/\wpAny (model X.prog X.w) X.A (getItem v (.ref sl)) (EP X ah σ Q) X.xe s
noncomputable def Y6(r:V->Option Int->Option Int->Hp->VK->Prop)(te:TE)(tl th:TO):TE:=λσ H Q=>te σ H λx H1=>tl σ H1 λl H2=>th σ H2 λu H3=>r x l u H3 Q
theorem kJ{r:V->Option Int->Option Int->Hp->VK->Prop}(hr:Ue X r)(he:PE X e te)(hl:PO X lo tl)(hu:PO X hi th):PE X (.Subscript e (.Slice lo hi none p2) pos) (Y6 r te tl th):=by
 intro ah s σ H Q I h;refine Subscript_ (bI (he ah s σ H _ I h) λv s1 ⟨x,H1,I1,r1,q1⟩=>?_)
 refine wpAny_Slice (bI (hl ah s1 σ H1 _ I1 q1) λvl s2 ⟨l,H2,I2,pl,q2⟩=>bI (hu ah s2 σ H2 _ I2 q2) λvu s3 ⟨u,H3,I3,pu,q3⟩=>?_)
 rw[evalPart_none];refine bP ?_;have I4:Inv X ah σ H3 { s3 with heap:=s3.heap.push { cls:=.type "slice",data:=.fields #[vl,vu,.none]}}:=I3.kept (t':=s3.toks) λb ob q=>a9 _ q
 obtain⟨T,id,hT,ht,hg⟩:=hr ah { s3 with heap:=s3.heap.push { cls:=.type "slice",data:=.fields #[vl,vu,.none]}} σ H3 x v vl vu l u s3⁻¹ Q I4 r1 (Heap.IsSliceOf.new ..) pl pu q3;show wpAny (model X.prog X.w) X.A (subscriptTail e (.Slice lo hi none p2) v (.ref s3⁻¹)) (EP X ah σ Q) X.xe { s3 with heap:=s3.heap.push { cls:=.type "slice",data:=.fields #[vl,vu,.none]}};exact tail_any (ops:=[.ref s3⁻¹,v]) ht hT hg (by with_unfolding_all rfl)
def oW(xs:List V)(lo hi:Option Int):List V:=(xs.drop (HT.bD xs.length 0 lo)).take (HT.bD xs.length xs.length hi - HT.bD xs.length 0 lo)
theorem jE(xs:List V)(lo hi:Option Int):(oW xs lo hi).length<=xs.length:=by unfold oW;rw[rV,List.length_drop];lia
def VR(K:Frag):V->Option Int->Option Int->Hp->VK->Prop:=λx lo hi H Q=>∃a xs,x=.ref a/\eZ K H a xs/\
 ¬ (HT.bD xs.length 0 lo=0/\HT.bD xs.length xs.length hi=xs.length)/\∀p,H p=none->Q (.ref p) (upd H p (.tup (oW xs lo hi)))
theorem KN:Ue X (VR X.K):=by
 intro ah s σ H x v vl vu lo hi sl Q I rx hs pl pu h;obtain⟨a,xs,rfl,hx,hw,q⟩:=h;cases rx;obtain⟨its,r,ht,hz⟩:=I.tuple hx;have aF:its.toArray.size=xs.length:=by rw[dA];exact r.length.symm
 refine⟨"tuple",_,PyProof.Rows.slot_tuple_getitem.lookup,ht.typeIs,?_⟩;refine HT.iF ht hs pl pu (by rw[aF];exact hw) ?_ (by rw[aF];exact hz)
 rw[aF];refine⟨.ref s⁻¹,_,I.laid (t':=s.toks) (o:=.tup (oW xs lo hi)) (λb ob q=>a9 _ q) (eA _) ?_,rfl,q _ (I.hok.fresh (eA _))⟩
 exact⟨l5 (jE xs lo hi) hz,_,(r.drop (HT.bD xs.length 0 lo)).take (HT.bD xs.length xs.length hi - HT.bD xs.length 0 lo),dI.new _ _⟩
def V0(K:Frag):R2:=λx y H Q=>∃a b ns ms,x=.ref a/\y=.ref b/\eZ K H a (ns.map V.int)/\eZ K H b (ms.map V.int)/\Q (.bl (HT.lexLt ns ms)) H
theorem KQ(hu:X.A.units<cLine):jg X (compareOp .Lt) (V0 X.K):=by intro ah s σ H x y v u Q I rx ry h;obtain⟨a,b,ns,ms,rfl,rfl,ha,hb,q⟩:=h;cases rx;cases ry;obtain⟨its,r1,p1,_⟩:=I.tuple ha;obtain⟨iB,r2,p2,_⟩:=I.tuple hb;have i1:IntsAre its.toArray.toList ns:=intsAre_of r1;have i2:IntsAre iB.toArray.toList ms:=intsAre_of r2;exact HT.tU p1 p2 i1 i2 hu ⟨.bl (HT.lexLt ns ms),H,I,rfl,q⟩
def Rc(K:Frag):R2:=λx y H Q=>∃a b xs ys,x=.ref a/\y=.ref b/\eZ K H a xs/\eZ K H b ys/\xs≠[]/\xs.length+ys.length<=sizeLine/\
 (ys=[]->Q (.ref a) H)/\(ys≠[]->∀p,H p=none->Q (.ref p) (upd H p (.tup (xs++ys))))
theorem Vals.oX(r:Vals xs us):us=[] ↔ xs=[]:=by
 cases r with
 |nil=>simp
 |cons _ _=>simp
theorem Fj:jg X (binaryOp .Add) (Rc X.K):=by
 intro ah s σ H x y v u Q I rx ry h;obtain⟨a,b,xs,ys,rfl,rfl,ha,hb,hx,hz,q1,q2⟩:=h;cases rx;cases ry;obtain⟨its,r1,p1,_⟩:=I.tuple ha;obtain⟨iB,r2,p2,_⟩:=I.tuple hb;refine HT.Fd p1 p2 (λz=>hx (r1.oX.mp z)) (λz=>⟨.ref a,H,I,rfl,q1 (r2.oX.mp z)⟩) (λz=>?_) (by rw[<- r1.length,<- r2.length];exact hz)
 refine⟨.ref s⁻¹,_,I.laid (t':=s.toks) (o:=.tup (xs++ys)) (λb ob q=>a9 _ q) (eA _) ?_,rfl,q2 (λw=>z (r2.oX.mpr w)) _ (I.hok.fresh (eA _))⟩
 exact⟨by rw[eQ];exact hz,_,r1.append r2,dI.new _ _⟩
end
noncomputable def vB(n:Nat)(i:Int):Option Nat:=if 0<=i then (if i<n then some i.toNat else none)else if -(n:Int)<=i then some (i+n).toNat else none
def dM{α:Type}(xs:List α)(i:Int):Option α:=(vB xs.length i).bind λj=>xs[j]?
theorem oY(h:vB n i=some j):seqIndex? i n=some j/\j<n/\-(n:Int)<=i/\i<n:=by
 unfold vB at h;by_cases h0:0<=i
 .
  rw[fN h0]at h;by_cases h1:i<n
  . rw[fN h1]at h;have e:i.toNat=j:=l6 h;exact⟨by rw[seqIndex_of h0 h1,e],by lia,by lia,h1⟩
  . rw[fI h1]at h;cases h
 .
  rw[fI h0]at h;by_cases h1 : -(n:Int)<=i
  . rw[fN h1]at h;have e:(i+n).toNat=j:=l6 h;exact⟨by rw[seqIndex_neg ⋯ h1,e],by lia,h1,by lia⟩
  . rw[fI h1]at h;cases h
theorem vC{α:Type}{xs:List α}{i:Int}{v:α}(h:dM xs i=some v):∃j,seqIndex? i xs.length=some j/\xs[j]?=some v/\j<xs.length/\-(xs.length:Int)<=i/\i<xs.length:=by
 unfold dM at h;cases e:vB xs.length i with
 |none=>rw[e]at h;cases h
 |some j=>rw[e]at h;obtain⟨h1,h2,h3,h4⟩:=oY e;exact⟨j,h1,h,h2,h3,h4⟩
def oZ(b:Expr):Prop:=∀o i,subscripted b false o i=operate [o,i] (getItem o i)
def Rf(X:Cx)(r:R2):Prop:=
 ∀(value slice:Expr) (ah:List (Addr×Obj)) (s:Shared) (σ:St) (H:Hp) (x y:V) (v u:Value) (Q:VK),Inv X ah σ H s->RelV x v->RelV y u->r x y H Q->
  subscripted slice false v u=operate [v,u] (getItem v u)->wpAny (model X.prog X.w) X.A (subscriptTail value slice v u) (EP X ah σ Q) X.xe s
def XD(X:Cx)(id:String)(r:V->List V->Hp->VK->Prop):Prop:=
 ∀(ah:List (Addr×Obj)) (s:Shared) (σ:St) (H:Hp) (x:V) (xs:List V) (v:Value) (us:List Value) (Q:VK),Inv X ah σ H s->RelV x v->Vals xs us->r x xs H Q->
  wpAny (model X.prog X.w) X.A (call (.builtin id) (v::us)) (EP X ah σ Q) X.xe s
section
variable{X:Cx}{a b:Expr}{ta tb:TE}{pos:Pos}
theorem Rg{r:R2}(hr:Rf X r)(ha:PE X a ta)(hb:PE X b tb)(hs:oZ b):PE X (.Subscript a b pos) (Uc r ta tb):=by intro ah s σ H Q I h;exact Subscript_ (Kp ha hb I h λv u s2 x y H2 I2 rx ry q=>hr a b ah s2 σ H2 x y v u Q I2 rx ry q (hs _ _))
def V1(K:Frag):R2:=λx y H Q=>∃p xs i v,x=.ref p/\y=.int i/\bU K H p xs/\dM xs i=some v/\Q v H
def V2(K:Frag):R2:=λx y H Q=>∃p xs i v,x=.ref p/\y=.int i/\eZ K H p xs/\dM xs i=some v/\Q v H
theorem vD:Rf X (V1 X.K):=by
 intro value slice ah s σ H x y v u Q I rx ry h hs;obtain⟨p,xs,i,z,rfl,rfl,hq,he,q⟩:=h;cases rx;obtain⟨t,rfl⟩:=ry;obtain⟨its,r,pl,hz⟩:=I.list hq;obtain⟨j,h1,h2,h3,h4,h5⟩:=vC he;obtain⟨w,ew,rw'⟩:=r.get h2;have hl:=r.length;have hn:=kF;have fin:EP X ah σ Q w s:=⟨z,H,I,rw',q⟩;by_cases h0:0<=i
 .
  have hj:i.toNat=j:=by rw[seqIndex_of h0 h5]at h1;exact l6 h1
  exact item_listR pl.isList h0 ⋯ (by rw[hj];simpa using ew) fin hs
 .
  have hj:(i+(its.toArray.size:Int)).toNat=j:=by rw[seqIndex_neg ⋯ h4]at h1;rw[dA,<- hl];exact l6 h1
  exact subscriptTail_builtinR (x:=w) pl.isList.typeIs slot_list_getitem.lookup
   (wpAny_getItem_list_neg (Q:=λr s'=>r=w/\EP X ah σ Q r s') pl.isList ⋯ (by rw[dA] <;> lia) ⋯ (by rw[hj];simpa using ew) ⟨rfl,fin⟩) hs
theorem KR:Rf X (V2 X.K):=by
 intro value slice ah s σ H x y v u Q I rx ry h hs;obtain⟨p,xs,i,z,rfl,rfl,hq,he,q⟩:=h;cases rx;obtain⟨t,rfl⟩:=ry;obtain⟨its,r,pl,hz⟩:=I.tuple hq;obtain⟨j,h1,h2,h3,h4,h5⟩:=vC he;obtain⟨w,ew,rw'⟩:=r.get h2;have hl:=r.length;have hn:=kF;have fin:EP X ah σ Q w s:=⟨z,H,I,rw',q⟩;exact subscriptTail_builtinR (x:=w) pl.typeIs slot_tuple_getitem.lookup
  (getItem_tuple (j:=j) (Q:=λr s'=>r=w/\EP X ah σ Q r s') pl ⋯ ⋯ (by rw[dA,<- hl];exact h1) (by simpa using ew) ⟨rfl,fin⟩) hs
theorem tX(its:List Value)(n j:Nat)(u:Value):Obj.mapSeq (·.setIfInBounds j u) { cls:=.type "list",data:=.seq its.toArray n}={ cls:=.type "list",data:=.seq (its.set j u).toArray n}:=by simp[Obj.mapSeq]
theorem Inv.lst{ah:List (Addr×Obj)}{σ:St}{H:Hp}{s:Shared}{p:Addr}{xs:List V}(I:Inv X ah σ H s)(h:H p=some (.lst xs)) :
  ∃(its:List Value) (n:Nat),Vals xs its/\s.heap.get? p=some { cls:=.type "list",data:=.seq its.toArray n}/\xs.length<=sizeLine:=by
 obtain⟨z,its,n,r,e⟩:=I.hok p _ h;exact⟨its,n,r,e,z⟩
theorem Inv.KS{ah:List (Addr×Obj)}{σ:St}{H:Hp}{s:Shared}{p:Addr}{xs ys:List V}{its its':List Value}{n n':Nat}{f:Obj->Obj}(I:Inv X ah σ H s)(h:H p=some (.lst xs))
  (ho:s.heap.get? p=some { cls:=.type "list",data:=.seq its.toArray n}) (hf:f { cls:=.type "list",data:=.seq its.toArray n}={ cls:=.type "list",data:=.seq its'.toArray n'}) (r:Vals ys its') (hz:ys.length<=sizeLine) (t:Nat) :
  Inv X ah σ (upd H p (.lst ys)) { s with heap:=s.heap.update p f,toks:=t}:=by
 have e:(s.heap.update p f).get? p=some { cls:=.type "list",data:=.seq its'.toArray n'}:=by rw[oI f ho (by rw[hf] <;> rfl),hf]
 refine I.write (x:=p) (e:=p) (by rw[h];trivial) (.inl rfl) (λb u hb q=>(t7 _ _ (t9 hb)).trans q) ⟨_,e⟩ ?_
 exact⟨hz,its',n',r,e⟩
def Rh:V->V->V->Hp->(Hp->Prop)->Prop:=λo i v H Q=>∃p xs k j,o=.ref p/\i=.int k/\H p=some (.lst xs)/\vB xs.length k=some j/\Q (upd H p (.lst (xs.set j v)))
theorem set_list:QC X Rh:=by
 intro ah s σ H o i v ov iv u Q I ro ri rv h;obtain⟨p,xs,k,j,rfl,rfl,hp,hj,q⟩:=h;cases ro;obtain⟨t,rfl⟩:=ri;obtain⟨its,n,r,ho,hz⟩:=I.lst hp;obtain⟨h1,h2,h3,h4⟩:=oY hj;have hl:=r.length;have hn:=kF;have I':Inv X ah σ (upd H p (.lst (xs.set j v))) { s with heap:=s.heap.update p (Obj.mapSeq (·.setIfInBounds j u))}:=
  I.KS hp ho (tX its n j u) (r.set rv j) (by rw[tS];exact hz) s.toks
 by_cases h0:0<=k
 .
  have hk:k.toNat=j:=by rw[seqIndex_of h0 h4]at h1;exact l6 h1
  exact PySem.W.ki_setAt ho h0 ⋯ (by rw[dA,<- hl];exact h4) (by rw[hk];exact⟨_,I',q⟩)
 .
  have hk:(k+(its.toArray.size:Int)).toNat=j:=by rw[seqIndex_neg ⋯ h3]at h1;rw[dA,<- hl];exact l6 h1
  exact PySem.W.ki_setBack ho ⋯ (by rw[dA,<- hl];exact h3) ⋯ (by rw[hk];exact⟨_,I',q⟩)
theorem o7(lo hi:Option Int)(n:Nat):(sliceBounds lo hi none n).1=((HT.bD n 0 lo:Nat):Int)/\(sliceBounds lo hi none n).2.1=((HT.bD n n hi:Nat):Int)/\(sliceBounds lo hi none n).2.2=1:=by
 refine⟨?_,?_,rfl⟩
 .
  cases lo with
  |none=>simp[sliceBounds,HT.bD]
  |some i=>
   simp only[sliceBounds,HT.bD,Option.getD_none,show (1:Int) > 0 by decide,A9]
   by_cases h:i<0
   . simp only[h,A9] <;> lia
   . simp only[h,CB] <;> lia
 .
  cases hi with
  |none=>simp[sliceBounds,HT.bD]
  |some i=>
   simp only[sliceBounds,HT.bD,Option.getD_none,show (1:Int) > 0 by decide,A9]
   by_cases h:i<0
   . simp only[h,A9] <;> lia
   . simp only[h,CB] <;> lia
theorem mL(its:List Value)(lo hi:Option Int):slicePick its.toArray lo hi none=((its.drop (HT.bD its.length 0 lo)).take (HT.bD its.length its.length hi - HT.bD its.length 0 lo)).toArray:=by obtain⟨h1,h2,h3⟩:=o7 lo hi its.toArray.size;unfold slicePick;rw[h1,h2,h3];simp only[sliceRange_one,pick_run,dA] <;> rfl
def V3(K:Frag):V->Option Int->Option Int->Hp->VK->Prop:=λx lo hi H Q=>∃a xs,x=.ref a/\bU K H a xs/\∀p,H p=none->Q (.ref p) (upd H p (.lst (oW xs lo hi)))
theorem vE:Ue X (V3 X.K):=by
 intro ah s σ H x v vl vu lo hi sl Q I rx hs pl pu h;obtain⟨a,xs,rfl,hx,q⟩:=h;cases rx;obtain⟨its,r,ht,hz⟩:=I.list hx;have aF:=r.length;refine⟨"list",_,slot_list_getitem.lookup,ht.isList.typeIs,?_⟩;refine wpAny_getItem_list_slice ht.isList hs pl pu .none ⋯ ?_ (by rw[dA] <;> lia)
 rw[mL,<- aF];refine⟨.ref s⁻¹,_,I.laid (t':=s.toks) (o:=.lst (oW xs lo hi)) (λb ob q=>a9 _ q) (eA _) ?_,rfl,q _ (I.hok.fresh (eA _))⟩
 exact⟨l5 (jE xs lo hi) hz,_,0,(r.drop (HT.bD xs.length 0 lo)).take (HT.bD xs.length xs.length hi - HT.bD xs.length 0 lo),eC _ rfl⟩
theorem o8:dz X (.type "list") (λxs H Q=>∃p ys,xs=[.ref p]/\(bU X.K H p ys\/eZ X.K H p ys)/\∀l,H l=none->Q (.ref l) (upd H l (.lst ys))):=by
 intro ah s σ H xs us Q I r h;obtain⟨p,ys,rfl,hq,q⟩:=h;obtain⟨u,rfl,rx⟩:=vals1 r;cases rx;have fin:∀(its:List Value),Vals ys its->ys.length<=sizeLine->∀(h':Heap) (c':Nat),(∀b o',s.heap.get? b=some o'->h'.get? b=some o')->
   h'.get? s⁻¹=some { cls:=.type "list",dict:=none,data:=.seq its.toArray c',slots:=#[]}->EP X ah σ Q (.ref s⁻¹) { s with heap:=h'}:=λits r' hz h' c' kp e=>
  ⟨.ref s⁻¹,_,I.laid (t':=s.toks) kp (eA _) (show cB X.prog X.w _ h' _ (.lst ys)from⟨hz,its,c',r',e⟩),rfl,q _ (I.hok.fresh (eA _))⟩
 rcases hq with hq |hq
 . obtain⟨its,r',pl,hz⟩:=I.list hq;have aF:=r'.length;obtain⟨o,ho,hc,n,hd⟩:=pl.isList;exact call_list_seq p (.inl rfl) ho hc hd (λh' c' kp e=>fin its r' hz h' c' kp e) (by simp only[dA] <;> lia)
 . obtain⟨its,r',pl,hz⟩:=I.tuple hq;have aF:=r'.length;obtain⟨o,ho,hc,n,hd⟩:=pl;exact call_list_seq p (.inr rfl) ho hc hd (λh' c' kp e=>fin its r' hz h' c' kp e) (by simp only[dA] <;> lia)
theorem mO:dz X (.type "tuple") (λxs H Q=>∃p ys,xs=[.ref p]/\((bU X.K H p ys/\∀l,H l=none->Q (.ref l) (upd H l (.tup ys)))\/(eZ X.K H p ys/\Q (.ref p) H))):=by
 intro ah s σ H xs us Q I r h;obtain⟨p,ys,rfl,h⟩:=h;obtain⟨u,rfl,rx⟩:=vals1 r;cases rx;rcases h with ⟨hq,q⟩ |⟨hq,q⟩
 .
  obtain⟨its,r',pl,hz⟩:=I.list hq;have aF:=r'.length;refine call_tuple_list pl.isList (λh' kp=>?_) (by simp only[dA] <;> lia)
  have I1:Inv X ah σ H { s with heap:=h'}:=I.kept (t':=s.toks) kp;have I2:Inv X ah σ (upd H h'.objs.size (.tup ys)) { s with heap:=h'.push { cls:=.type "tuple",data:=.seq its.toArray}}:=
   I1.laid (t':=s.toks) (λb o e=>a9 _ e) (eA _) (show cB X.prog X.w _ _ _ (.tup ys)from⟨hz,its,r',dI.new _ _⟩)
  exact⟨.ref h'.objs.size,_,I2,rfl,q _ (I1.hok.fresh (eA _))⟩
 . obtain⟨its,r',pl,hz⟩:=I.tuple hq;exact call_tuple_same pl ⟨.ref p,H,I,rfl,q⟩
def XF(K:Frag)(T:String)(x:V)(H:Hp):Prop:=match x with
 |.str _=>T = "str"
 |.int _=>T = "int"
 |.ref p=>(T = "list" /\∃xs,bU K H p xs)\/(T = "tuple" /\∃o,K.lookup p=some o/\o.cls=.type "tuple" /\o.dict=none)\/
   (T = "dict" /\((∃cG,H p=some (.dK cG))\/∃cG,H p=some (.dT cG)))\/(T = "set" /\∃S n,H p=some (.set S n))
 |_=>False
theorem KY{ah:List (Addr×Obj)}{σ:St}{H:Hp}{s:Shared}{T:String}{x:V}{v:Value}(I:Inv X ah σ H s)(r:RelV x v)(ty:XF X.K T x H) :
  s.TypeIs v T/\∀a,v=.ref a->∃ob,s.heap.get? a=some ob/\ob.dict=none:=by
 cases x with
 |str z=>
  obtain⟨t,rfl⟩:=r;cases (show T = "str" from ty)
  exact⟨typeIs_str s z t,λ_ e=>nomatch e⟩
 |int i=>
  obtain⟨t,rfl⟩:=r;cases (show T = "int" from ty)
  exact⟨typeIs_int s i t,λ_ e=>nomatch e⟩
 |ref p=>
  cases r;rcases ty with ⟨rfl,xs,hq⟩ |⟨rfl,o,hk,hc,hd⟩ |⟨rfl,hk⟩ |⟨rfl,S,n,hk⟩
  .
   obtain⟨its,_,pl,_⟩:=I.list hq;refine⟨pl.isList.typeIs,λa e=>?_⟩
   cases e;obtain⟨o,n,e,c,hd,_⟩:=pl;exact⟨o,e,hd⟩
  .
   refine⟨⟨o,I.qF p o hk,hc⟩,λa e=>?_⟩
   cases e;exact⟨o,I.qF _ o hk,hd⟩
  .
   have z:∃o,s.heap.get? p=some o/\o.ExactDict:=by
    rcases hk with ⟨cG,hk⟩ |⟨cG,hk⟩
    . obtain⟨_,_,_,_,o,_,_,e,ex,_⟩:=I.hok p _ hk;exact⟨o,e,ex⟩
    . obtain⟨_,_,_,_,o,_,_,e,ex,_⟩:=I.hok p _ hk;exact⟨o,e,ex⟩
   obtain⟨o,e,ex⟩:=z;refine⟨⟨o,e,ex.1⟩,λa e2=>?_⟩
   cases e2;exact⟨o,e,ex.2.1⟩
  .
   obtain⟨o,_,_,_,e,ex,_⟩:=I.hok p _ hk;refine⟨⟨o,e,ex.1⟩,λa e2=>?_⟩
   cases e2;exact⟨o,e,ex.2.1⟩
 |_=>exact False.elim ty
def Y7(K:Frag)(T:String)(r:V->List V->Hp->VK->Prop)(to:TE)(t:TA):TE:=λσ H Q=>to σ H λx H1=>XF K T x H1/\t σ H1 λxs H2=>r x xs H2 Q
variable{o e:Expr}{es:List Expr}{to:TE}{t:TA}{name:Str}{eW bM:Pos}{T id:String}{r:V->List V->Hp->VK->Prop}
theorem zF(pa:PlainAttrs T)(slot:Slot T name id)(hty:typeOf (.builtin id)=pure (.type "method_descriptor"))(hm:XD X id r)(ho:PE X o to)(ha:PA X (e::es) t)
  (hbase:attributeBase o name X.env (eval o X.env)=eval o X.env:=by rfl)
  (hfew:((backTo bM (starEach (e::es) X.env)).all (λx=>!x.1)&&(backToKw bM (keywordEach [] X.env)).all (λx=>x.1.isSome)
   && decide ((e::es).length+([]:List Keyword).length+(if ([]:List Keyword).isEmpty then 0 else 1)<30))=true:=by rfl)
  (hline:(eW.endLine==bM.line)=true:=by rfl) (hs:starEach (e::es) X.env=(false,eval e X.env)::starEach es X.env:=by rfl) (hplain:(backTo bM (starEach es X.env)).any (·.1)=false:=by rfl) :
  PE X (.Call (.Attribute o name eW) (e::es) [] bM) (Y7 X.K T r to t):=by
 intro ah s σ H Q I h;refine wpAny_Call_method_late hbase hfew hline rfl (bI (ho ah s σ H _ I h) λv s1 ⟨x,H1,I1,r1,ty,q1⟩=>?_)
 obtain⟨h1,h2⟩:=KY I1 r1 ty;refine⟨T,id,pa,slot,hty,h1,h2,?_⟩;have hA:=ha bM ah s1 σ H1 _ I1 q1;rw[hs]at hA ⊢
 refine Calls.callWith_builtin (by show (false||(backTo bM (starEach es X.env)).any (·.1))=false;rw[hplain] <;> rfl) (Calls.evalArgs_plain ?_)
 exact bI hA λus s2 ⟨vs,H2,I2,r2,q2⟩=>hm ah s2 σ H2 x vs v us Q I2 r1 r2 q2
/- xs.append(e),list.index on a module's tuple .. are XD facts of 06m -/
end
def V4(X:Cx)(id:String)(r:V->List V->Hp->VK->Prop):Prop:=
 ∀(ah:List (Addr×Obj)) (s:Shared) (σ:St) (H:Hp) (x:V) (xs:List V) (v:Value) (us:List Value) (Q:VK),Inv X ah σ H s->RelV x v->Vals xs us->r x xs H Q->
  wpAny (model X.prog X.w) X.A (call (.builtin id) (v::us)) (EP X ah σ Q) X.xe s
theorem Vals.one:∀{x:V}{us:List Value},Vals [x] us->∃u,us=[u]/\RelV x u
 |_,_,.cons r .nil=>⟨_,rfl,r⟩
theorem Vals.eraseIdx:∀{xs:List V}{us:List Value} (i:Nat),Vals xs us->Vals (xs.eraseIdx i) (us.eraseIdx i)
 |_,_,_,.nil=>.nil
 |_,_,0,.cons _ t=>t
 |_,_,i+1,.cons r t=>.cons r (Vals.eraseIdx i t)
theorem Vals.reverse{xs:List V}{us:List Value}(h:Vals xs us):Vals xs.reverse us.reverse:=by
 induction h with
 |nil=>exact .nil
 |cons r t ih=>rw[BU,BU];exact Vals.append ih (.cons r .nil)
theorem Vals.rep(h:Vals xs us):∀k:Nat,Vals (List.replicate k xs).flatten (List.replicate k us).flatten
 | 0=>.nil
 |k+1=>by
  rw[oP,oP,AG,AG];exact Vals.append h (Vals.rep h k)
theorem nG{α:Type}:∀(l:List α) (i:Nat),(l.eraseIdx i).length<=l.length
 | [],_=>eA _
 |_::_,0=>CS _
 |_::r,i+1=>Nat.succ_le_succ (nG r i)
theorem foldl_rep(its:List Value):∀(k:Nat) (acc:List Value),
  List.foldl (λx1 x2=>x1++x2) acc.toArray (List.replicate k its.toArray)=(acc++(List.replicate k its).flatten).toArray
 | 0,acc=>by simp
 |k+1,acc=>by
  have e:acc.toArray++its.toArray=(acc++its).toArray:=by simp
  have e2:(acc++its)++(List.replicate k its).flatten=acc++(List.replicate (k+1) its).flatten:=by rw[oP,AG,AH]
  rw[<- e2,<- foldl_rep its k (acc++its),<- e,oP,List.foldl_cons]
section
variable{X:Cx}{ah:List (Addr×Obj)}{σ:St}{H:Hp}{s:Shared}{l b:Addr}{xs ys zs:List V}
theorem Inv.KZ{its its':List Value}{n:Nat}{f:Array Value->Array Value}{t':Nat}(I:Inv X ah σ H s)(hH:H l=some (.lst xs))
  (e:s.heap.get? l=some { cls:=.type "list",data:=.seq its.toArray n}) (hf:f its.toArray=its'.toArray) (hv:Vals ys its') (hz:ys.length<=sizeLine) :
  Inv X ah σ (upd H l (.lst ys)) { s with heap:=s.heap.update l (Obj.mapSeq f),toks:=t'}:=by
 have q:=PySem.IsL.update e f;rw[hf]at q;refine I.write (x:=l) (e:=l) (by rw[hH];exact trivial) (.inl rfl) (λb' u hb hu=>(t7 s.heap (Obj.mapSeq f) (t9 hb)).trans hu) ⟨_,q⟩ ?_
 exact⟨hz,its',_,hv,q⟩
theorem Inv.Ri(I:Inv X ah σ H s)(hv:Vals ys its)(hz:ys.length<=sizeLine) :
  Inv X ah σ (upd H s⁻¹ (.lst ys)) { s with heap:=s.heap.push { cls:=.type "list",data:=.seq its.toArray},toks:=t'}:=
 I.laid (λ_ _ q=>a9 _ q) (eA _) ⟨hz,its,0,hv,eC _ rfl⟩
theorem Inv.fresh(I:Inv X ah σ H s):H s⁻¹=none:=I.hok.fresh (eA _)
theorem Inv.tY(I:Inv X ah σ H s)(hH:H l=some (.lst xs)):xs.length<=sizeLine/\∃(its:List Value) (n:Nat),Vals xs its/\xs.length=its.length/\s.heap.get? l=some { cls:=.type "list",data:=.seq its.toArray n}:=by obtain⟨z,its,n,r,e⟩:=I.hok l _ hH;exact⟨z,its,n,r,r.length,e⟩
theorem qP(h:n<=sizeLine):Builtin.List.listTooLong n=false:=by unfold Builtin.List.listTooLong;exact qS ⋯
end
section
variable{X:Cx}
def Fo:V->List V->Hp->VK->Prop:=λx vs H Q=>∃l xs y,x=.ref l/\vs=[y]/\H l=some (.lst xs)/\xs.length<sizeLine/\Q .non (upd H l (.lst (xs++[y])))
theorem nI:V4 X "list.append" Fo:=by
 intro ah s σ H x vs v us Q I rx rv h;obtain⟨l,xs,y,rfl,rfl,hH,hz,q⟩:=h;cases rx;obtain⟨u,rfl,ru⟩:=rv.one;obtain⟨z,its,n,r,hl,e⟩:=I.tY hH;refine call_meets F.slot_list_append ⟨_,e,rfl⟩ F.entry_list_append (F.args_list_append_2 _ _) (PySem.list_append l its.toArray n u (by rw[dA];lia)) ⟨e,?_⟩
 refine⟨.non,_,I.KZ (its':=its++[u]) hH e ⋯ (r.append (.cons ru .nil)) ?_,rfl,q⟩;rw[eQ,oQ];lia
def Fp:V->List V->Hp->VK->Prop:=λx vs H Q=>∃l b xs zs,x=.ref l/\vs=[.ref b]/\H l=some (.lst xs)/\H b=some (.lst zs)/\xs.length+zs.length<=sizeLine/\Q .non (upd H l (.lst (xs++zs)))
theorem xq:V4 X "list.extend" Fp:=by
 intro ah s σ H x vs v us Q I rx rv h;obtain⟨l,b,xs,zs,rfl,rfl,hH,hB,hz,q⟩:=h;cases rx;obtain⟨u,rfl,ru⟩:=rv.one;cases ru;obtain⟨z,its,n,r,hl,e⟩:=I.tY hH;obtain⟨z2,iB,n2,r2,hl2,e2⟩:=I.tY hB;have tK:its.toArray.size+iB.toArray.size<=sizeLine:=by rw[dA,dA];lia
 have zG : ¬ (!its.toArray.isEmpty&&Builtin.List.listTooLong (its.toArray.size+iB.toArray.size))=true:=by rw[qP tK,AS];exact kS
 refine call_meets F.slot_list_extend ⟨_,e,rfl⟩ F.entry_list_extend (F.args_list_extend_2 _ _)
  (AutoSeq1.list_extend_list_list_0 l its.toArray n b iB.toArray n2 zG (by rw[dA];lia) ⋯) ⟨e,e2,?_⟩
 refine⟨.non,_,I.KZ (its':=its++iB) hH e ⋯ (r.append r2) ?_,rfl,q⟩;rw[eQ];lia
def K1:V->List V->Hp->VK->Prop:=λx vs H Q=>∃l xs i k y,x=.ref l/\vs=[.int i]/\H l=some (.lst xs)/\-(2 ^ 63)<=i/\i<2 ^ 63/\seqIndex? i xs.length=some k/\xs[k]?=some y/\Q y (upd H l (.lst (xs.eraseIdx k)))
theorem zH:V4 X "list.pop" K1:=by
 intro ah s σ H x vs v us Q I rx rv h;obtain⟨l,xs,i,k,y,rfl,rfl,hH,h1,h2,hk,hy,q⟩:=h;cases rx;obtain⟨u,rfl,ru⟩:=rv.one;obtain⟨t,rfl⟩:=ru;obtain⟨z,its,n,r,hl,e⟩:=I.tY hH;obtain⟨w,hw,rw'⟩:=r.get hy;refine call_meets F.slot_list_pop ⟨_,e,rfl⟩ F.entry_list_pop (F.args_list_pop_2 _ _)
  (MeetsSeq.list_pop_at l its.toArray n i t k w (fitsIndex_both h1 h2) (by rw[dA,<- hl];exact hk) (by rw[<- y7];exact hw) (by rw[dA];lia)) ⟨e,?_⟩
 refine⟨y,_,I.KZ (its':=its.eraseIdx k) hH e ?_ (r.eraseIdx k) ?_,rw',q⟩
 . show its.toArray.eraseIdxIfInBounds k=(its.eraseIdx k).toArray;rw[List.eraseIdxIfInBounds_toArray]
 . have:=nG xs k;lia
def V5:R2:=λx y H Q=>∃l b xs zs,x=.ref l/\y=.ref b/\H l=some (.lst xs)/\H b=some (.lst zs)/\xs.length+zs.length<=sizeLine/\∀p,H p=none->Q (.ref p) (upd H p (.lst (xs++zs)))
theorem K3:jg X (binaryOp .Add) V5:=by
 intro ah s σ H x y v u Q I rx ry h;obtain⟨l,b,xs,zs,rfl,rfl,hH,hB,hz,q⟩:=h;cases rx;cases ry;obtain⟨z,its,n,r,hl,e⟩:=I.tY hH;obtain⟨z2,iB,n2,r2,hl2,e2⟩:=I.tY hB;refine PySem.P.add_list e e2 ?_ (by rw[dA,dA];lia)
 have ea:its.toArray++iB.toArray=(its++iB).toArray:=by simp
 rw[ea];exact⟨.ref _,_,I.Ri (t':=s.toks) (r.append r2) (by rw[eQ];lia),rfl,q _ I.fresh⟩
def V6:R2:=λx y H Q=>∃l k xs,x=.ref l/\y=.int k/\H l=some (.lst xs)/\-(2 ^ 63)<=k/\k<2 ^ 63/\xs.length * k.toNat<=sizeLine/\
 ∀p,H p=none->Q (.ref p) (upd H p (.lst (List.replicate k.toNat xs).flatten))
theorem len_rep{α:Type}(xs:List α)(k:Nat):(List.replicate k xs).flatten.length=k * xs.length:=by
 induction k with
 |zero=>simp
 |succ k ih=>rw[oP,AG,eQ,ih,Nat.succ_mul,Nat.add_comm]
theorem K4:jg X (binaryOp .Mult) V6:=by
 intro ah s σ H x y v u Q I rx ry h;obtain⟨l,k,xs,rfl,rfl,hH,h1,h2,hz,q⟩:=h;cases rx;obtain⟨t,rfl⟩:=ry;obtain⟨z,its,n,r,hl,e⟩:=I.tY hH;have aF:its.toArray.size * k.toNat<=sizeLine:=by rw[dA,<- hl];exact hz
 have hcap : ¬ its.toArray.size * k.toNat > (2 ^ 63 - 1) / 8:=by
  have:(sizeLine:Nat)<=(2 ^ 63 - 1) / 8:=by decide
  lia
 have hfit : ¬ (!Builtin.List.listFitsIndex k)=true:=by rw[fitsIndex_both h1 h2];exact kS
 have zG : ¬ Builtin.List.listTooLong (its.toArray.size * k.toNat)=true:=by rw[qP aF];exact kS
 have hnew:List.foldl (λx1 x2=>x1++x2) #[] (List.replicate (if its.toArray.isEmpty=true then 0 else k.toNat) its.toArray)=(List.replicate k.toNat its).flatten.toArray:=by
  have f0:∀m:Nat,List.foldl (λx1 x2=>x1++x2) #[] (List.replicate m its.toArray)=(List.replicate m its).flatten.toArray:=λm=>by
   have:=foldl_rep its m [];rw[AX]at this;exact this
  rw[f0];cases its with
  |nil=>simp
  |cons a r'=>rw[fI ⋯]
 refine wpAny_binaryOp_repeat_ref (T:= "list") (U:= "int") ⋯ ⟨_,e,rfl⟩ (λs'=>typeIs_int s' k t) noFill_list_mul F.fills_int_mul F.slot_int_rmul repeat_list F.slot_int_index.lookup
  (call_meets F.slot_int_rmul (typeIs_int s k t) F.entry_int_rmul (F.args_int_rmul_2 _ _) (int___rmul___int_list k t l its.toArray n)
   ⟨e,rfl,⟨_,e,rfl⟩,call_meets F.slot_list_mul ⟨_,e,rfl⟩ F.entry_list_mul (F.args_list_mul_2 _ _) (AutoListH.list___mul___list_int_3 l its.toArray n k t hfit hcap zG) ⟨e,?_⟩⟩)
 rw[hnew];exact⟨.ref _,_,I.Ri (t':=s.toks) (r.rep k.toNat) (by rw[len_rep,Nat.mul_comm];exact hz),rfl,q _ I.fresh⟩
end
end L2
namespace XH
open PySem PySem.W PySem.Calls PyProof.Rows
theorem jQ:∀(ns:List Int) (vs:List Value),WellAll P h vs (ns.map WData.int)->IntsAre vs ns:=by
 intro ns
 induction ns with
 |nil=>intro vs w;rw[List.map_nil]at w;cases w;exact .nil
 |cons n ns ih=>
  intro vs w;rw[List.map_cons]at w;cases w with
  |cons a b=>cases a;exact .cons _ _ (ih _ b)
theorem xr{l:OpenLaw}{n:Nat}(hn:l.most=some n){P:Params}{h:Heap}{args:List WData}{vals:List Value}
  (hpre:l.row.toRowW.claim.pre args=true) (hwl:WellAll P h vals args) :
  ∃a vs ns,vals=[Value.ref a]/\args=[WData.list (ns.map WData.int)]/\h.get? a=some { cls:=.type "list",data:=.seq vs.toArray}/\IntsAre vs ns/\ns.length<=n:=by
 have hsh:WShape.hasAll [] args [.list .int]=true:=(pre_splitW hpre).1;have hc:l.pre.holds [] { args:=args}=true:=(pre_splitW hpre).2;obtain⟨d,r,rfl,h1,h2⟩:=hasAllW_cons hsh;obtain rfl:=hasAllW_nil h2;obtain⟨xs,rfl,h3⟩:=hasW_list h1;obtain⟨ns,rfl⟩:=items_int h3;have aF:ns.length<=n:=by
  unfold OpenLaw.pre at hc;have h4:(WTm.not (.lt (.lit (.int (n:Int))) (.len (.arg 0)))).holds [] { args:=[.list (ns.map .int)]}=true:=by have h4:=(holds_andW hc).1;rw[hn]at h4;exact h4
  have h5:=condW_of h4 (w_not (w_lt w_lit (w_len_list (w_arg rfl))));rw[gL]at h5;refine Nat.le_of_not_lt λq=>?_
  have q':(n:Int)<((ns.length:Nat):Int):=by lia
  first
   | (rw[sT q']at h5;exact absurd h5 ⋯)
   | (simp at h5;lia)
 cases hwl with
 |cons w1 w2=>
  cases w2;cases w1 with
  |list ho hall=>exact⟨_,_,ns,rfl,rfl,ho,jQ ns _ hall,aF⟩
theorem xu(l:OpenLaw)(args:List WData):l.row.toRowW.claim.post args (.bool true) args=true:=
 postW_of (r:=l.row.toRowW) (X:=(true==true))
  (show WShape.has [] (.bool true) .bool=true by first |rfl |decide |simp[WShape.has,WShape.arms,WShape.armsAll])
  (show (WTm.eq .res (.lit (.bool true))).value [] { args:=args,res:=some (.bool true),after:=args}=some (.bool (true==true))from w_eq_bool (w_res rfl) w_lit) rfl
theorem qQ{l:OpenLaw}{n:Nat}{q:Program}{loose:List Str}{XP:(Str->Option Value)->Heap->Prop}{YP:World->Heap->Prop}{d:DefRec}
  (hn:l.most=some n) (j3:d.params.defaults=[])
  (call:∀(w:World) (s₀ s₁:Shared) (mg mb:Str->Option Value) (fa:Addr) (o:Obj) (pm cd doc:Value) (a:Addr) (vs:List Value) (ns:List Int),
   Ground q loose [] XP w s₀ mg mb s₁.heap->YP w s₁.heap->
   s₁.heap.get? fa=some o->o.data=.func (docDef d.name d.params d.body d.scope pm cd doc)->s₁.heap.CodeRec cd d.name->mg d.name=some (.ref fa)->
   s₁.heap.get? a=some { cls:=.type "list",data:=.seq vs.toArray}->IntsAre vs ns->ns.length<=n->s₁.gens = #[]->
   codeAny (model l.prog w) callerA (.call (.ref fa) ⟨[.ref a],[]⟩) (λr s'=>r=.ok (.ret (.bool true))/\OldK s₁.heap s'.heap/\s'.os=s₁.os/\AllBare s'.gens) s₁) :
  WalkO q loose XP YP l.row.toRowW d [] (λf vs=>PySem.call f vs):=by
 intro w s₀ s₁ mg mb G Y fa o pm cd doc dV kV ho hd cM hD hmg hg args vals as hpre hlay hrd hwl hlo;obtain rfl:dV=.none:=Dflts.none hD j3;obtain rfl:kV=.none:=Dflts.noKw hD;obtain⟨a,vs,ns,rfl,rfl,hobj,hints,aF⟩:=xr hn hpre hwl;refine enter_call (C3 (call w s₀ s₁ mg mb fa o pm cd doc a vs ns G Y ho (fd_plain hd) cM hmg hobj hints aF hg) λr s' hq=>?_)
 obtain⟨rfl,h2,h3,h4⟩:=hq;exact⟨.inl ⟨.bool true,.bool true,[],rfl,λ_=>rfl,.bool true,xu l _,λ_=>⟨List.Pairwise.nil,λ_ hm=>(nomatch hm)⟩⟩,h2,h3,h4⟩
end XH
namespace L2
theorem jh:∀{vs:List Value}{ns:List Int},IntsAre vs ns->Vals (ns.map V.int) vs
 |_,_,.nil=>.nil
 |_,_,.cons n t h=>.cons ⟨t,rfl⟩ (jh h)
abbrev KOf{K:Frag}{h:Heap}(_:K.In h):Frag:=K
abbrev Ec:zB:=λ_ _ _ _ _ _=>False
abbrev E0:XK:=λ_ _ _=>False
theorem Rj:Passes Ec X E0:=λ_ _ _ _ _ _ _ h=>h.elim
structure Rk(K:Frag)(x qual:Str)(st:Stmt)(f:Addr)(fd:FuncData):Prop where
 ex:∃(oc:Value) (od:Option Addr) (kV doc pm:Value) (an:Option Addr) (dG ct:Value) (osl:Array (Option Value)),
  fd=PySem.W.fnOf x qual (fX st) (bx st) (aJ st) .none kV doc pm an dG ct/\K.lookup f=some ⟨oc,od,.func fd,osl⟩/\PySem.W.codeIn K dG qual=true
 kp:PySem.W.keepIn K (.ref f)=true
section
variable{P:Program}{w:World}{K:Frag}{mg:Str->Option Value}{base:Heap}
theorem K5{x qual:Str}{st:Stmt}{f:Addr}{oc:Value}{od an:Option Addr}{osl:Array (Option Value)}{kV doc pm dG ct:Value}(l:K.lookup f=some ⟨oc,od,.func (PySem.W.fnOf x qual (fX st) (bx st) (aJ st) .none kV doc pm an dG ct),osl⟩)
  (c:PySem.W.codeIn K dG qual=true) (k:PySem.W.keepIn K (.ref f)=true):Rk K x qual st f (PySem.W.fnOf x qual (fX st) (bx st) (aJ st) .none kV doc pm an dG ct):=⟨⟨oc,od,kV,doc,pm,an,dG,ct,osl,rfl,l,c⟩,k⟩
end
theorem qR{A B:Prop}(h:B):if false=true then A else B:=by rw[fI kS];exact h
theorem kK{A B:Prop}(h:A):if true=true then A else B:=by rw[fN rfl];exact h
noncomputable def Cx.block(X:Cx)(N:List Str)(scope:Scope)(cl:List (Str×Addr))(C:Addr)(s₀:Shared)(H₀:Hp)(fp:List Addr):Cx:=
 { X with N:=N,s₀:=s₀,H₀:=H₀,env:=compEnvC scope cl C X.env,outer:=X.stack,ex:=fp,fn:=λx=>scope.names.lookup x==some .local,pn:=[],xe:=λ_ _=>False}
structure Bk where
 cl:List (Str×Addr)
 C:Addr
 s₀:Shared
 H₀:Hp
 fp:List Addr
abbrev Cx.blk (X:Cx) (N:List Str) (scope:Scope) (b:Bk):Cx:=X.block N scope b.cl b.C b.s₀ b.H₀ b.fp
structure cz(sc scope:Scope):Prop where
 kind:scope.kind=.function
 zI:∀y∈scope.names,y.2≠.cell
 uniq:∀y∈scope.names,y.2=.local->scope.names.lookup y.1=some .local
 Rl:∀y∈scope.names,y.2=.free->scope.names.lookup y.1=some .free
 free:∀y∈scope.names,y.2=.free->sc.names.lookup y.1=some .cell\/sc.names.lookup y.1=some .free
theorem mem_of_lookup{α:Type}{x:Str}{v:α}:∀{l:List (Str×α)},l.lookup x=some v->(x,v)∈l
 | [],h=>by simp at h
 | (n,k)::r,h=>by
  cases hx:x==n with
  |true=>
   simp only[sB,hx]at h;cases h;have e:x=n:=by simpa using hx
   subst e;exact dC
  |false=>simp only[sB,hx]at h;exact b0 _ (mem_of_lookup h)
theorem fD{env:Env}{x:Str}:∀{names:List (Str×NameKind)},
  (names.map λ(n,k)=>if (k==NameKind.free&&env.scope.kind==.function&&env.kindOf n==some .cell)then (n,NameKind.cell)else (n,k)).lookup x
   = (names.lookup x).map λk=>if (k==NameKind.free&&env.scope.kind==.function&&env.kindOf x==some .cell)then NameKind.cell else k
 | []=>rfl
 | (n,k)::r=>by
  have ih:=@fD env x r;show List.lookup x ((if (k==NameKind.free&&env.scope.kind==.function&&env.kindOf n==some .cell)=true then (n,NameKind.cell)else (n,k))::_)=_
  cases hx:x==n with
  |true=>
   have e:x=n:=by simpa using hx
   subst e;by_cases hc:(k==NameKind.free&&env.scope.kind==.function&&env.kindOf x==some .cell)=true
   . rw[fN hc];simp only[sB,hx,AY,fN hc]
   . rw[fI hc];simp only[sB,hx,AY,fI hc]
  |false=>
   by_cases hc:(k==NameKind.free&&env.scope.kind==.function&&env.kindOf n==some .cell)=true
   . rw[fN hc];simp only[sB,hx];exact ih
   . rw[fI hc];simp only[sB,hx];exact ih
theorem tZ(h:∀y∈scope.names,y.2=.free->∃c,env.cells.lookup y.1=some c) :
  ∃cl,closureFor scope env=pure cl/\(∀x c,cl.lookup x=some c->env.cells.lookup x=some c/\(x,NameKind.free)∈scope.names)/\∀y∈scope.names,y.2=.free->∃c,cl.lookup y.1=some c:=by
 have key:∀(names:List (Str×NameKind)) (acc:List (Str×Addr)),(∀y∈names,y.2=.free->∃c,env.cells.lookup y.1=some c)->
   ∃cl,(forIn names acc λ(x:Str×NameKind) (cs:List (Str×Addr))=>(match x with | (name,kind)=>if (kind==.free)=true then (do let c <- cellOf env name;pure (ForInStep.yield ((name,c)::cs)))else pure (ForInStep.yield cs):Sem (ForInStep (List (Str×Addr)))))=pure cl/\
    (∀x c,cl.lookup x=some c->acc.lookup x=some c\/(env.cells.lookup x=some c/\(x,NameKind.free)∈names))/\(∀y∈names,y.2=.free->∃c,cl.lookup y.1=some c)/\∀x c,acc.lookup x=some c->∃c',cl.lookup x=some c':=by
  intro names
  induction names with
  |nil=>intro acc _;exact⟨acc,rfl,λx c e=>.inl e,(λy hy=>nomatch hy),λx c e=>⟨c,e⟩⟩
  |cons y r ih=>
   intro acc hf;obtain⟨n,k⟩:=y;rw[List.forIn_cons];by_cases hk:(k==NameKind.free)=true
   .
    obtain⟨c,hc⟩:=hf (n,k) dC (by simpa using hk)
    have hc':env.cells.lookup n=some c:=hc;obtain⟨cl,e,h1,h2,h3⟩:=ih ((n,c)::acc) λy hy=>hf y (b0 _ hy)
    refine⟨cl,?_,λx c' q=>?_,λy hy Ug=>?_,λx c' q=>?_⟩
    .
     have ec:cellOf env n=pure c:=by unfold cellOf;rw[hc']
     show ((if (k==NameKind.free)=true then (do let c <- cellOf env n;pure (ForInStep.yield ((n,c)::acc)))else pure (ForInStep.yield acc)) >>= _)=_
     rw[fN hk,ec];exact e
    .
     rcases h1 x c' q with z |⟨z1,z2⟩
     .
      cases hx:x==n with
      |true=>
       simp only[sB,hx]at z;cases z;have e:x=n:=by simpa using hx
       subst e;have ek:k=NameKind.free:=by simpa using hk
       subst ek;exact .inr ⟨hc',dC⟩
      |false=>simp only[sB,hx]at z;exact .inl z
     . exact .inr ⟨z1,b0 _ z2⟩
    .
     rcases dS.mp hy with rfl |hy
     . exact h3 n c ⋯
     . exact h2 y hy Ug
    .
     cases hx:x==n with
     |true=>
      have e:x=n:=by simpa using hx
      subst e;exact h3 x c ⋯
     |false=>exact h3 x c' (by simp only[sB,hx];exact q)
   .
    obtain⟨cl,e,h1,h2,h3⟩:=ih acc λy hy=>hf y (b0 _ hy)
    refine⟨cl,?_,λx c' q=>?_,λy hy Ug=>?_,h3⟩
    .
     show ((if (k==NameKind.free)=true then (do let c <- cellOf env n;pure (ForInStep.yield ((n,c)::acc)))else pure (ForInStep.yield acc)) >>= _)=_
     rw[fI hk];exact e
    .
     rcases h1 x c' q with z |⟨z1,z2⟩
     . exact .inl z
     . exact .inr ⟨z1,b0 _ z2⟩
    .
     rcases dS.mp hy with rfl |hy
     . exact absurd Ug (by simpa using hk)
     . exact h2 y hy Ug
 obtain⟨cl,e,h1,h2,_⟩:=key scope.names [] h;refine⟨cl,?_,λx c q=>?_,h2⟩
 . exact (congrArg (λ(m:Sem (List (Str×Addr)))=>m >>= λcs=>pure cs) e:_)
 .
  rcases h1 x c q with z |z
  . simp at z
  . exact z
def o9(X:Cx)(ifs:List Expr)(t:TT):Prop:=
 ∀(ah:List (Addr×Obj)) (s:Shared) (σ:St) (H:Hp) (Q:Bool->Hp->Prop),Inv X ah σ H s->t σ H Q->
  wpAny (model X.prog X.w) X.A (forIn ifs true λc r=>if r=true then do let ok <- isTrue c X.env (eval c X.env);pure (ForInStep.yield ok)else pure (ForInStep.yield r)) (TP X ah σ Q) X.xe s
def zJ:TT:=λ_ H Q=>Q true H
theorem qT:o9 X [] zJ:=λ_ _ _ H _ I h=>wpAny_tests_nil ⟨H,I,h⟩
theorem zK(h:PT X c t):o9 X [c] t:=λah s σ H Q I hw=>wpAny_tests_one (h ah s σ H Q I hw)
noncomputable def uc(e target iter:Expr)(ifs:List Expr)(d:Nat)(it acc:Value)(env:Env)(em:Sem Unit):Sem Fin:=do
 standAt iter.pos
 match <- pyNext it with
 |none=>pure (.done .next)
 |some v=>
  letOwnedTupleGo target it v
  assign target env v
  let mut ok:=true
  for c in ifs do
   if ok then ok <- isTrue c env (eval c env)
  if ok then em
  again (.compLoop e d it acc env)
def Cu(ce:Expr):Prop:=∀(prog:Program) (w:World) (A:Around) (d:Nat) (it acc:Value) (env:Env),A.under (.compLoop ce d it acc env)=A/\(model prog w).den (.compLoop ce d it acc env)=(compTurn ce d it acc env).onRaise (λx=>do noteFrame x env;theTreesLotGoes x)
theorem pg{prog:Program}{w:World}{A:Around}{R:Result->Shared->Prop}{s:Shared}{ce target iter:Expr}{ifs:List Expr}{d:Nat}{it acc:Value}{env:Env}{em:Sem Unit}(hu:Cu ce)(ht:compTurn ce d it acc env=uc ce target iter ifs d it acc env em)(I:Nat->Shared->Prop)
  (turn:∀n s,I n s->wpAny (model prog w) A (pyNext it) (λr s₁=>match r with
   |none=>R (.ok .next) s₁
   |some v=>wpAny (model prog w) A (letOwnedTupleGo target it v) (λ_ s₁'=>wpAny (model prog w) A (assign target env v) (λ_ s₂=>
     wpAny (model prog w) A (forIn ifs true λc r=>if r=true then do let ok <- isTrue c env (eval c env);pure (ForInStep.yield ok)else pure (ForInStep.yield r)) (λok s₃=>
      if ok=true then wpAny (model prog w) A em (λ_ s₅=>∃m,m<n/\I m s₅) (λ_ _=>False) s₃
      else ∃m,m<n/\I m s₃) (λ_ _=>False) s₂) (λ_ _=>False) s₁') (λ_ _=>False) s₁) (λ_ _=>False) s)
  (n:Nat) (h:I n s) :
  codeAny (model prog w) A (.compLoop ce d it acc env) R s:=by
 refine codeAny_loop rfl I (λn s hI=>?_) n h
 rw[(hu prog w A d it acc env).1,(hu prog w A d it acc env).2];refine wpAny_noted ?_;rw[ht];refine aS (BB (aS (nK (turn n s hI) (λr s₁ h₁=>?_) λ_ _ h'=>h'.elim)))
 cases r with
 |none=>exact bP h₁
 |some v=>
  refine aS (nK h₁ (λ_ s₁' h₁'=>?_) λ_ _ h'=>h'.elim)
  refine aS (nK h₁' (λ_ s₂ h₂=>aS (nK h₂ (λok s₃ h₃=>?_) λ_ _ h'=>h'.elim)) λ_ _ h'=>h'.elim)
  cases ok with
  |false=>exact bP ⟨rfl,h₃⟩
  |true=>exact aS (nK h₃ (λ_ s₅ h₅=>bP ⟨rfl,h₅⟩) λ_ _ h'=>h'.elim)
abbrev TU:=St->Hp->(St->Hp->Prop)->Prop
def PU(X:Cx)(m:Sem Unit)(t:TU):Prop:=
 ∀(ah:List (Addr×Obj)) (s:Shared) (σ:St) (H:Hp) (Q:St->Hp->Prop),Inv X ah σ H s->t σ H Q->wpAny (model X.prog X.w) X.A m (λ_ s'=>∃σ' H',Inv X ah σ' H' s'/\Q σ' H') (λ_ _=>False) s
def Fq(D:Addr)(te:TE):TU:=λσ H Q=>te σ H λv H5=>∃ys,H5 D=some (.lst ys)/\ys.length<sizeLine/\Q σ (upd H5 D (.lst (ys++[v])))
theorem zL(he:PE X iC te)(hx:X.xe=λ_ _=>False):PU X (do let _ <- call (.builtin "list.append") [.ref D,<- eval iC X.env]) (Fq D te):=by
 intro ah s σ H Q I h;have he:=he ah s σ H _ I h;rw[hx]at he;refine aS (nK he (λy s8 ⟨v,H8,I8,r8,ys,Y8,Y9,q8⟩=>?_) λ_ _ z=>z)
 have ma:=nI ah s8 σ H8 (.ref D) [v] (.ref D) [y] (λ_ H9=>Q σ H9) I8 rfl (.cons r8 .nil) ⟨_,ys,v,rfl,rfl,Y8,Y9,q8⟩
 rw[hx]at ma;exact aS (nK ma (λ_ s9 ⟨_,H9,I9,_,q9⟩=>bP ⟨σ,H9,I9,q9⟩) λ_ _ z=>z)
noncomputable def σC(k:Nat)(D:Addr)(σ:St):St:=σ++(List.replicate k none++[some (.ref D)])
def V7(X:Cx)(σ:St)(b:Bk):Prop:=∃ah,Inv X ah σ b.H₀ b.s₀/\∀a∈b.fp,jf X ah b.H₀ a
def Ft(u0:HO)(X:Cx)(k:Nat)(g:Bk->TG)(tt:Bk->TT)(te:Addr->Bk->TU)(J:It)(D:Addr)(σ:St)(H1:Hp)(Q:VK):Prop:=
 ∃W:Nat->Nat->St->Hp->Prop,(∃m,W 0 m (σC k D σ) (upd H1 D u0))/\∀i m σ' H',W i m σ' H'->
  (J.stop i H'/\Q (.ref D) H')\/(J.go i H'/\∃Nn:St->Hp->Prop,(∀Uh Ui,Nn Uh Ui->∃m',m'<m/\W (i+1) m' Uh Ui)/\∀x H2,J.Ua i H' x H2->∀bk:Bk,V7 X σ bk->g bk x σ' H2 λσ2 H3=>tt bk σ2 H3 λb H4=>
   if b=true then te D bk σ2 H4 Nn else Nn σ2 H4)
noncomputable def pq(u0:HO)(X:Cx)(k:Nat)(wi:TI)(g:Bk->TG)(tt:Bk->TT)(te:Addr->Bk->TU):TE:=λσ H Q=>wi σ H λJ H1=>∀D,H1 D=none->Ft u0 X k g tt te J D σ H1 Q
abbrev zM:=pq (.lst [])
structure Ck(X:Cx)(ce tg iter:Expr)(ifs:List Expr)(rest:List Comprehension)(new:Sem Value)(u0:HO)(em:Value->Env->Sem Unit):Prop where
 cls:clausesOf ce=⟨tg,iter,ifs,0⟩::rest
 V8:Cu ce
 turn:∀it D env,compTurn ce 0 it (.ref D) env=uc ce tg iter ifs 0 it (.ref D) env (em (.ref D) env)
 new:∃o0:Obj,o0.isFreed=false/\(∀{A:Around}{E Q:Value->Shared->Prop}{s:Shared},Q (.ref s⁻¹) { s with heap:=s.heap.push o0}->wpAny (model X.prog X.w) A new Q E s)/\
  ∀(H:Hp) (h:Heap) (a:Addr),h.get? a=some o0->(a==sysModules)=false->cB X.prog X.w H h a u0
 start:∀{A:Around}{R:Result->Shared->Prop}{s:Shared}{it acc:Value}{env:Env},codeAny (model X.prog X.w) A (.compLoop ce 0 it acc env) R s->
  wpAny (model X.prog X.w) A (pyIter it) (λit' s'=>codeAny (model X.prog X.w) A (.compLoop ce 0 it' acc env) R s') (notedBy (model X.prog X.w) A env λx s'=>R (.error x) s') s->codeAny (model X.prog X.w) A (.compStart ce 0 it acc env) R s
theorem vF{X:Cx}{iC tg iter:Expr}{ifs:List Expr}{rest:List Comprehension}{scope:Scope}{pos:Pos}{em:Value->Env->Sem Unit}(h:∀it acc env,compTurn (.ListComp iC (⟨tg,iter,ifs,0⟩::rest) scope pos) 0 it acc env=uc (.ListComp iC (⟨tg,iter,ifs,0⟩::rest) scope pos) tg iter ifs 0 it acc env (em acc env)) :
  Ck X (.ListComp iC (⟨tg,iter,ifs,0⟩::rest) scope pos) tg iter ifs rest (newList []) (.lst []) em where
 cls:=rfl
 V8:=λ_ _ _ _ _ _ _=>⟨rfl,rfl⟩
 turn:=λit D env=>h it (.ref D) env
 new:=⟨_,rfl,λh=>lL h,λ_ _ _ e _=>⟨nV _,[],_,.nil,e⟩⟩
 start:=codeAny_compStart_list
structure Names(N N':List Str)(scope:Scope)(k:Nat):Prop where
 len:N'.length=N.length+(k+1)
 last:∀x,N'[N.length+k]?=some x->scope.names.lookup x=none
 old:∀i x,N'[i]?=some x->i<N.length->scope.names.lookup x=none\/(N[i]?=some x/\scope.names.lookup x≠some .local)
theorem cH:(relabel scope env).names.lookup x=(scope.names.lookup x).map λk=>if (k==NameKind.free&&env.scope.kind==.function&&env.kindOf x==some .cell)then NameKind.cell else k:=fD
section
variable{X:Cx}
theorem kL(B:cz X.env.scope scope)(h:(compEnvC scope cl C X.env).kindOf x=some .cell\/(compEnvC scope cl C X.env).kindOf x=some .free) :
  (x,NameKind.free)∈scope.names:=by
 have e:(compEnvC scope cl C X.env).kindOf x=(scope.names.lookup x).map λk=>if (k==NameKind.free&&X.env.scope.kind==.function&&X.env.kindOf x==some .cell)then NameKind.cell else k:=cH
 rw[e]at h;cases q:scope.names.lookup x with
 |none=>rw[q]at h;rcases h with h |h <;> cases h
 |some k=>
  have hm:=mem_of_lookup q;cases k with
  |free=>exact hm
  |cell=>exact absurd rfl (B.zI _ hm)
  |_=>rw[q]at h;rcases h with h |h <;> (simp at h)
theorem zN(B:cz X.env.scope scope)(I:Inv X ah σ H s)(hC:s⁻¹<=C)
  (hf:∀b∈fp,jf X ah H b) (hfs:∀b∈fp,b<s⁻¹)
  (hcl:∀x c,cl.lookup x=some c->X.env.cells.lookup x=some c/\(x,NameKind.free)∈scope.names) (Fv:∀y∈scope.names,y.2=.free->∃c,cl.lookup y.1=some c):(X.block N' scope cl C s H fp).Ok where
 mod:=I.ok.mod
 kind:=B.kind
 glob:=I.ok.glob
 blt:=I.ok.blt
 above:=hC
 inj:=λx y c h1 h2=>I.ok.inj x y c (hcl x c h1).1 (hcl y c h2).1
 has:=λx h=>Fv _ (kL (cl:=cl) (C:=C) B h) rfl
 P0:=λx c h1 h2=>by
  have e:scope.names.lookup x=some .local:=by have:(scope.names.lookup x==some NameKind.local)=true:=h1;simpa using this
  have h3:=(hcl x c h2).2;have q:=B.Rl _ h3 rfl;rw[e]at q;cases q
 hd:=I.ok.hd
 frames:=I.ok.frames
 stk:=.inl rfl
 Qq:=λb hb=>⟨kA (fR (hfs b hb) hC),λx c e=>(hf b hb).2.2.2.2.1 x c (hcl x c e).1⟩
 bs:=I.bs
 Eo:=l5 I.ok.Eo I.sz
 tL:=λb o e hb=>by
  obtain⟨_,_,_,h3,_⟩:=hf b hb;rcases h3 with h3 |h3
  . exact I.ok.tL b o e h3
  . exact absurd (fR (eP e) (l5 I.ok.Eo h3)) (tJ _)
 wQ:=λb hb hm=>by
  rcases dS.mp (I.tM b hm)with e |e
  . exact (hf b hb).2.1 e
  . exact (hf b hb).2.2.1 e
 jP:=I.stack
 J3:=I.vj
theorem ji{ah:List (Addr×Obj)}{σ:St}{H:Hp}{s:Shared}{N':List Str}{k:Nat}{wi:TI}{g:Bk->TG}{tt:Bk->TT}{tu:Addr->Bk->TU}{ce:Expr}{rest:List Comprehension}{new:Sem Value}{u0:HO}{cp:Pos}{em:Value->Env->Sem Unit}{use:Option (Value->Sem Unit)}{Q:Value->Shared->Prop}{Q0:VK}
  (B:cz X.env.scope scope) (hc:X.calm=true) (hN:Names X.N N' scope k) (hi:PI X tg iter wi) (ck:Ck X ce tg iter ifs rest new u0 em)
  (hin:∀(b:Bk) (D:Addr),PG (X.blk N' scope b) tg (g b)/\o9 (X.blk N' scope b) ifs (tt b)/\PU (X.blk N' scope b) (em (.ref D) (X.blk N' scope b).env) (tu D b))
  (hs:∀x,foldedSetIterable iter X.env x=pure x) (I:Inv X ah σ H s) (h:pq u0 X k wi g tt tu σ H Q0)
  (fin:∀s' H' D C m,Inv X ah σ H' s'->jf X ah H' C->s'.heap.Ns C m->Q0 (.ref D) H'->compPost (model X.prog X.w) X.A X.xe use Q (.ref D) C (.ok .next) s') :
  wpAny (model X.prog X.w) X.A (comprehension ce scope X.env cp new false (eval iter X.env) use) Q X.xe s:=by
 obtain⟨cl,hclos,hcl,Fv⟩:=tZ (scope:=scope) (env:=X.env) λy hy hf=>I.ok.has y.1 (B.free y hy hf)
 refine wpAny_comprehension_free ck.cls hs hclos B.kind B.uniq (bI (hi ah s σ H _ I h) λxv s₁ h₁=>bI h₁ λitv s₂ h₂=>?_)
 obtain⟨it,fp,tn,J,H2,rfl,I2,T,aM,f2,hW⟩:=h₂;obtain⟨o0,Za,V9,Zb⟩:=ck.new;refine V9 (wpAny_newFunctionEnv B.zI (by intro y hy;simp at hy) (λh₁ K6 Fy=>?_) B.kind)
 dsimp only at K6 Fy ⊢
 generalize Wa:s₂.heap.push o0=P2 at K6 Fy ⊢
 have hC:P2.objs.size=s₂⁻¹+1:=by rw[<- Wa,vS]
 have hDC:s₂⁻¹≠P2.objs.size:=by rw[hC];exact kA (wE _)
 have K7:s₂⁻¹<=P2.objs.size:=by rw[hC];exact CS _
 have old:∀b o,s₂.heap.get? b=some o->h₁.get? b=some o:=λb o e=>Fy.extBut b o (kA (by rw[hC];exact Nat.lt_succ_of_lt (eP e))) (a9 _ (Wa▸a9 _ e))
 have XJ:H2 s₂⁻¹=none:=I2.hok.fresh (eA _);have Zc:H2 P2.objs.size=none:=I2.hok.fresh K7;have Wc:(s₂⁻¹==sysModules)=false:=by
  have h1:mainGlobals<s₂⁻¹:=(I2.ok.mod.glob.keeps I2.bk).lt;refine BY.mpr λq=>?_
  have q:=eq_of_beq q;rw[q]at h1;exact absurd h1 ⋯
 have XM:∀b∈fp,b<s₂⁻¹:=λb hb=>by
  obtain⟨o,e,_⟩:=T.obj _ _ aM b hb;exact eP e
 have ok':=zN (N':=N') (cl:=cl) B I2 K7 f2 XM hcl Fv;obtain⟨W,⟨m0,w0⟩,turn⟩:=hW s₂⁻¹ XJ;have Wd:∀b∈fp,b∉frs X.stack:=λb hb=>ok'.wQ b hb
 obtain⟨hg,ht,he⟩:=hin ⟨cl,P2.objs.size,s₂,H2,fp⟩ s₂⁻¹;have I0:Inv (X.block N' scope cl P2.objs.size s₂ H2 fp) [] (σC k s₂⁻¹ σ) (upd H2 s₂⁻¹ u0) { s₂ with heap:=h₁,toks:=s₂.toks+([]:List (Str×Value)).length}:=by
  refine⟨ok',rfl,I2.bare,Un.laid old (eA _) XJ,⟨_,K6,λi x v e1 e2 e3=>?_⟩,λx c e=>?_,?_,λx c e=>?_,λp hp=>?_,I2.hok.laid old (eA _) ?_,?_⟩
  .
   have Rm:(compEnvC scope cl P2.objs.size X.env).kindOf x=some .local\/(compEnvC scope cl P2.objs.size X.env).kindOf x=some .cell\/(compEnvC scope cl P2.objs.size X.env).kindOf x=some .free:=e3;have ek:(compEnvC scope cl P2.objs.size X.env).kindOf x=(scope.names.lookup x).map λk=>if (k==NameKind.free&&X.env.scope.kind==.function&&X.env.kindOf x==some .cell)then NameKind.cell else k:=cH
   have Qu:i<σ.length:=by
    rcases y8 i σ.length with z |z
    . exact z
    .
     exfalso;unfold σC at e2;rw[eD z]at e2;rcases y8 (i - σ.length) k with z2 |z2
     .
      rw[dL (by rw[mI];exact z2)]at e2
      have:=mB e2;rw[An]at this;exact absurd this.2 ⋯
     .
      rw[eD (by rw[mI];exact z2),mI]at e2
      have z3:i - σ.length - k=0:=by
       rcases Nat.eq_zero_or_pos (i - σ.length - k)with q |q
       . exact q
       . rw[oS (Nat.succ_le_of_lt q)]at e2;cases e2
      have z4:i=X.N.length+k:=by rw[<- I2.len];lia
      have hn:=hN.last x (by rw[<- z4];exact e1)
      rw[ek,hn]at Rm;rcases Rm with q |q |q <;> cases q
   have Uj:σ[i]?=some (some v):=by unfold σC at e2;rw[dL Qu]at e2;exact e2
   have Zd:i<X.N.length:=by rw[<- I2.len];exact Qu
   rcases hN.old i x e1 Zd with z |⟨z,z2⟩
   . rw[ek,z]at Rm;rcases Rm with q |q |q <;> cases q
   .
    have hfree:(compEnvC scope cl P2.objs.size X.env).kindOf x=some .cell\/(compEnvC scope cl P2.objs.size X.env).kindOf x=some .free:=by
     rcases Rm with q |q
     .
      exfalso;rw[ek]at q;cases hq:scope.names.lookup x with
      |none=>rw[hq]at q;cases q
      |some kk=>
       rw[hq]at q;cases kk with
       | «local»=>exact z2 hq
       |free=>simp only[AY,Option.some.injEq]at q;split at q <;> cases q
       |_=>simp at q
     . exact q
    have hm:=kL (cl:=cl) (C:=P2.objs.size) B hfree;obtain⟨c,hc1⟩:=Fv _ hm rfl;have Ro:cl.lookup x=some c:=hc1;have hc2:=(hcl x c Ro).1;obtain⟨m2,hn2,hl2⟩:=I2.loc;have Wf:Ea X.env.scope x:=(B.free _ hm rfl).elim (λa=>.inr (.inl a)) λa=>.inr (.inr a)
    obtain⟨u,ru,lk⟩:=hl2 i x v z Uj Wf;refine⟨u,ru,.inr ⟨hfree,c,Ro,?_⟩⟩;rcases lk with ⟨q1,_⟩ |⟨_,c',q1,q2⟩
    .
     exfalso;have K8:X.env.scope.names.lookup x=some .local:=q1;rcases B.free _ hm rfl with y |y
     . have y':X.env.scope.names.lookup x=some .cell:=y;rw[K8]at y';cases y'
     . have y':X.env.scope.names.lookup x=some .free:=y;rw[K8]at y';cases y'
    . rw[hc2]at q1;cases q1;obtain⟨o,ho,hd⟩:=q2;exact⟨o,old _ _ ho,hd⟩
  . obtain⟨v,o,ho,hd⟩:=I2.cell x c (hcl x c e).1;exact⟨v,o,old _ _ ho,hd⟩
  . show upd H2 s₂⁻¹ u0 P2.objs.size=none;rw[az (t9 hDC)];exact Zc
  . have q:=I2.gH x c (hcl x c e).1;obtain⟨v,z⟩:=I2.cell x c (hcl x c e).1;rw[az (kA z.lt)];exact q
  . exact absurd (show p∈([]:List (Addr×Obj))from hp) ⋯
  . exact Zb _ _ _ (Fy.extBut _ _ hDC (a9 _ (Wa▸eC _ Za))) Wc
  . show (σC k s₂⁻¹ σ).length=N'.length;unfold σC;rw[eQ,eQ,mI,hN.len,I2.len];rfl
 have stat:∀{H':Hp},(∀b∈fp,H' b=none)->∀b∈fp,jf (X.block N' scope cl P2.objs.size s₂ H2 fp) [] H' b:=λhn b hb=>
  ⟨hn b hb,(ok'.Qq b hb).1,Wd b hb,.inl hb,λx c e=>(ok'.Qq b hb).2 x c e,λp hp=>absurd (show p∈([]:List (Addr×Obj))from hp) ⋯⟩
 have loop:∀s₃:Shared,s₃={ s₂ with heap:=h₁,toks:=s₂.toks+([]:List (Str×Value)).length}->
   codeAny (model X.prog X.w) X.A (.compLoop ce 0 (.ref it) (.ref s₂⁻¹) (compEnvC scope cl P2.objs.size X.env))
    (compPost (model X.prog X.w) X.A X.xe use Q (.ref s₂⁻¹) P2.objs.size) s₃:=by
  rintro s₃ rfl;refine pg ck.V8 (ck.turn _ _ _) (λn s'=>∃i σ' H',Inv (X.block N' scope cl P2.objs.size s₂ H2 fp) [] σ' H' s'/\tn i s'.heap/\(∀b∈fp,H' b=none)/\W i n σ' H') ?_ m0
   ⟨0,_,_,I0,T.keep _ _ _ aM λb hb o e=>old b o e,λb hb=>?_,w0⟩
  .
   rintro n s3 ⟨i,σ3,H3,I3,fW,QJ,w3⟩;rcases turn i n σ3 H3 w3 with ⟨stop,qn⟩ |⟨go,Nn,Ze,step⟩
   .
    refine bI (T.done (X.block N' scope cl P2.objs.size s₂ H2 fp) rfl rfl rfl hc i [] s3 σ3 H3 (λ_ _=>False) I3 (stat QJ) fW stop) λr s4 ⟨hr,I4⟩=>?_
    subst hr;obtain⟨m,hm,_⟩:=id I4.loc;have I5:Inv X ah σ H3 s4:=I2.call' (ch:=fp) I4.os I4.base I4.hok I4.bare λb hb=>⟨(f2 b hb).2.2.2.1,(f2 b hb).2.1,(f2 b hb).2.2.2.2.1,(f2 b hb).2.2.2.2.2⟩
    exact fin s4 H3 _ _ m I5 (I2.zo K7 I4.free) hm qn
   .
    refine bI (T.item (X.block N' scope cl P2.objs.size s₂ H2 fp) rfl rfl rfl hc i [] s3 σ3 H3 (λ_ _=>False) I3 (stat QJ) fW go) λr s4 ⟨u,hr,h4⟩=>?_
    subst hr;refine bI h4 λ_ s5 ⟨x,H5,I5,r5,y5,wX,Vx⟩=>?_
    have Vy:=I5.pinned (stat Vx) (T.obj _ _ wX);have again:∀{σ7:St}{H7:Hp}{s7:Shared},Inv (X.block N' scope cl P2.objs.size s₂ H2 fp) ([]++kC fp s5.heap) σ7 H7 s7->Nn σ7 H7->∃m,m<n/\∃i σ' H',Inv (X.block N' scope cl P2.objs.size s₂ H2 fp) [] σ' H' s7/\tn i s7.heap/\(∀b∈fp,H' b=none)/\W i m σ' H':=λ{σ7 H7 s7} I7 n7=>by
     obtain⟨m',hm,w7⟩:=Ze σ7 H7 n7;refine⟨m',hm,i+1,σ7,H7,I7.iE,T.keep _ _ _ wX λb hb o e=>(I7.pin (b,o) (l8 _ (l8 _ (eH hb e)))).1,λb hb=>?_,w7⟩
     obtain⟨o,e,d⟩:=T.obj _ _ wX b hb;exact (I7.pin (b,o) (l8 _ (l8 _ (eH hb e)))).2.1
    refine bI (hg _ s5 σ3 H5 x u _ Vy r5 (step x H5 y5 ⟨cl,P2.objs.size,s₂,H2,fp⟩ ⟨ah,I2,f2⟩)) λ_ s6 ⟨σ6,H6,I6,q6⟩=>?_
    refine bI (ht _ s6 σ6 H6 _ I6 q6) λb s7 ⟨H7,I7,q7⟩=>?_
    cases b with
    |false=>
     rw[fI kS]at q7 ⊢
     exact again I7 q7
    |true=>
     rw[fN rfl]at q7 ⊢
     exact nK (he _ s7 σ6 H7 _ I7 q7) (λ_ s9 ⟨σ9,H9,I9,q9⟩=>again I9 q9) λ_ _ z=>z
  . show upd H2 s₂⁻¹ u0 b=none;rw[az (kA (XM b hb))];exact (f2 b hb).1
 refine ck.start (loop _ rfl) (T.self _ 0 _ _ _ ?_ (loop _ rfl));exact T.keep _ _ _ aM λb hb o e=>old b o e
theorem Fz{N':List Str}{k:Nat}{wi:TI}{g:Bk->TG}{tt:Bk->TT}{te:Bk->TE}(B:cz X.env.scope scope)(hc:X.calm=true)(hN:Names X.N N' scope k)(hi:PI X tg iter wi)
  (hin:∀b:Bk,PG (X.blk N' scope b) tg (g b)/\o9 (X.blk N' scope b) ifs (tt b)/\PE (X.blk N' scope b) iC (te b))
  (hs:∀x,foldedSetIterable iter X.env x=pure x:=by intro _;rfl):PE X (.ListComp iC [⟨tg,iter,ifs,0⟩] scope pos) (zM X k wi g tt λD b=>Fq D (te b)):=by
 intro ah s σ H Q I h;rw[eval_ListComp];refine ji (use:=none) B hc hN hi (vF (rest:=[]) (em:=λacc env=>do let _ <- call (.builtin "list.append") [acc,<- eval iC env]) λ_ _ _=>rfl) (λb D=>⟨(hin b).1,(hin b).2.1,zL (hin b).2.2 rfl⟩) hs I h λs' H' D C m I' f' hn q=>?_
 refine⟨m,hn,λh' sb=>⟨.ref D,H',?_,rfl,q⟩⟩
 obtain⟨f0,f1,f2,f3,f4,f5⟩:=f';exact I'.turned (t':=s'.toks) (λb o hb e=>(sb.2 b hb).trans e) f0 f1 f3 f4 f5
theorem FG{N':List Str}{k:Nat}{wi:TI}{g:Bk->TG}{tt:Bk->TT}{te:Bk->TE}{i:Nat}{y:Str}{py dw:Pos}(B:cz X.env.scope scope)(hc:X.calm=true)(hN:Names X.N N' scope k)(hi:PI X tg iter wi)
  (hin:∀b:Bk,PG (X.blk N' scope b) tg (g b)/\o9 (X.blk N' scope b) ifs (tt b)/\PE (X.blk N' scope b) iC (te b))
  (Wg:X.N.Nodup) (hy:X.N[i]?=some y) (hl:X.env.scope.names.lookup y=some .local)
  (hsw:swapsWith (.ListComp iC [⟨tg,iter,ifs,0⟩] scope pos) (some (.Name y py)) dw.line X.env=pure true)
  (hs:∀x,foldedSetIterable iter X.env x=pure x:=by intro _;rfl):PS X (.Assign [.Name y py] (.ListComp iC [⟨tg,iter,ifs,0⟩] scope pos) dw) (Kf (zM X k wi g tt λD b=>Fq D (te b)) (zf i)):=by
 intro ah s σ H D0 I h;rw[exec_Assign_Name_used _ _ _ _ hsw];refine aS (BB (aS ?_));show wpAny _ X.A (do let _ <- comprehension (.ListComp iC [⟨tg,iter,ifs,0⟩] scope pos) scope X.env _ (newList []) false (eval iter X.env) (some (assign (.Name y py) X.env))) _ _ s
 refine aS (nK (ji (use:=some (assign (.Name y py) X.env)) (Q:=λ_ s'=>SP X ah D0 .next s') B hc hN hi (vF (rest:=[]) (em:=λacc env=>do let _ <- call (.builtin "list.append") [acc,<- eval iC env]) λ_ _ _=>rfl) (λb D=>⟨(hin b).1,(hin b).2.1,zL (hin b).2.2 rfl⟩) hs I h λs' H' D C m I' f' hn q=>?_) (λ_ s' hq=>bP (bP hq)) λ_ _ e=>e)
 refine wpAny_assign_Name (nk I' Wg hy (.inl hl) (v:=.ref D) rfl (λs2 I2 hsb=>?_) (.inr hl))
 obtain⟨f0,f1,f2,f3,f4,f5⟩:=f';obtain⟨a,sb,ha⟩:=hsb;have nC:C≠a:=by
  rcases ha with e |e
  . rw[e];exact f1
  . exact t9 (f4 _ _ e)
 refine⟨m,hn.sameBut sb nC,λh' sb'=>⟨_,H',?_,q⟩⟩
 exact I2.turned (t':=s2.toks) (λb o hb e=>(sb'.2 b hb).trans e) f0 f1 f3 f4 f5
end
section
variable{X:Cx}{ah:List (Addr×Obj)}{σ:St}{H:Hp}{s:Shared}
abbrev Uk (X:Cx):=tupleKind (eG X.prog X.w)
theorem dW:∀{ks:List Key}{its:List Value},Vals (ks.map kV) its->PySem.ItemsAre (eG X.prog X.w) ks its
 | [],_,.nil=>.nil
 |.inl i::ks,_,.cons h r=>by obtain⟨t,rfl⟩:=h;exact .cons (qD _ _ _ _) (dW r)
 |.inr x::ks,_,.cons h r=>by obtain⟨t,rfl⟩:=h;exact .cons (qE _ _ _ _) (dW r)
theorem Inv.ud{a:Addr}{ks:List Key}(I:Inv X ah σ H s)(h:eZ X.K H a (ks.map kV)):(Uk X).is s.heap ks a:=by obtain⟨its,r,⟨o,e,c,n,d⟩,_⟩:=I.tuple h;exact⟨o,its.toArray,n,e,c,d,by simpa using dW r⟩
theorem gR{α β:Type}{F:α->β->Prop}:∀{l:List α}{m:List β},Paired F l m->∀b∈m,∃a∈l,F a b
 |_,_,.cons h r,b,hb=>(dS.mp hb).elim (λe=>⟨_,dC,e▸h⟩) λe=>let ⟨a,h1,h2⟩:=gR r b e;⟨a,b0 _ h1,h2⟩
noncomputable def atK{α:Type}(l:List (List Key×α))(ks:List Key):Option α:=(l.find? λp=>decide (p.1=ks)).map (·.2)
theorem jF{F:List Key×V->List Key×Addr×Value->Prop}(hF:∀p q,F p q->p.1=q.1/\RelV p.2 q.2.2){ks:List Key}{v:V}:∀{l:List (List Key×V)}{m:List (List Key×Addr×Value)},Paired F l m->atK l ks=some v->∃p,atKey m ks=some p/\RelV v p.2
 | (k,x)::l,(k',a,u)::m,.cons h r,e=>by
  obtain⟨e1,e2⟩:=hF _ _ h;have e1:k=k':=e1;subst e1;unfold atK at e;unfold atKey;rw[List.find?_cons]at e ⊢
  by_cases hk:k=ks
  .
   rw[show decide (k=ks)=true from sT hk]at e ⊢
   cases e;exact⟨(a,u),rfl,e2⟩
  .
   rw[show decide (k=ks)=false from qS hk]at e ⊢
   exact jF hF r e
theorem Inv.Jq{d:Addr}{cG:List (List Key×V)}(I:Inv X ah σ H s)(h:H d=some (.dT cG)):∃xs,s.heap.DictOfH (Uk X) d xs/\Paired (λ(p:List Key×V) (q:List Key×Addr×Value)=>p.1=q.1/\H q.2.1=some (.tup (p.1.map kV))/\RelV p.2 q.2.2) cG xs/\cG.length<=sizeLine/\(d==sysModules)=false:=by
 obtain⟨hz,hs,xs,pr,o,es,ep,e1,e2,e3,e4,e5⟩:=(show cB X.prog X.w H s.heap d (.dT cG)from I.hok d _ h);refine⟨xs,⟨o,es,ep,e1,e2,e3,e4,λx hx=>?_,e5⟩,pr,hz,hs⟩
 obtain⟨p,_,q1,q2,_⟩:=gR pr x hx;rw[<- q1];exact I.ud (.inl (.inl q2))
def Wh(K:Frag):R2:=λx y H Q=>∃p a cG ks v,x=.ref p/\y=.ref a/\H p=some (.dT cG)/\eZ K H a (ks.map kV)/\atK cG ks=some v/\Q v H
theorem FH(hu:X.A.units+1<cLine):Rf X (Wh X.K):=by
 intro value slice ah s σ H x y v u Q I rx ry h hs;obtain⟨p,a,cG,ks,z,rfl,rfl,hp,ha,he,q⟩:=h;cases rx;cases ry;obtain⟨xs,dh,pr,hz,hy⟩:=I.Jq hp;obtain⟨w,w1,w2⟩:=jF (λ_ _ h=>⟨h.1,h.2.2⟩) pr he
 have fin:EP X ah σ Q w.2 { s with toks:=s.toks+(Uk X).draws ks}:=⟨z,H,I.tok _,w2,q⟩;exact subscriptTail_builtinR (x:=w.2) dh.typeIs slot_dict_getitem.lookup (wpAny_getItem_heap (Q:=λr s'=>r=w.2/\EP X ah σ Q r s') (tupleKind_room_in1 hu) (I.ud ha) dh w1 ⟨rfl,fin⟩) hs
def K9(D:Addr)(tk tv:TE):TU:=λσ H Q=>tk σ H λk H4=>tv σ H4 λv H5=>∃(cG:List (List Key×V)) (a:Addr) (ks:List Key),k=.ref a/\H5 D=some (.dT cG)/\H5 a=some (.tup (ks.map kV))/\ks∉cG.map (·.1)/\cG.length<sizeLine/\Q σ (upd H5 D (.dT (cG++[(ks,v)])))
noncomputable abbrev Jr (kx vx:Expr) (acc:Value) (env:Env):Sem Unit:=do
 let kv <- eval kx env
 let vv <- holding [kv] (eval vx env)
 standAt { kx.pos with endLine:=vx.pos.endLine,endCol:=vx.pos.endCol}
 match acc with
 |.ref D=>holding [kv,vv] (dictSet D kv vv)
 |_=>pure ()
theorem La{D:Addr}{kx vx:Expr}{tk tv:TE}(hu:X.A.units<cLine)(hk:PE X kx tk)(hv:PE X vx tv)(hx:X.xe=λ_ _=>False):PU X (Jr kx vx (.ref D) X.env) (K9 D tk tv):=by
 intro ah s σ H Q I h;have hk:=hk ah s σ H _ I h;rw[hx]at hk;refine aS (nK hk (λkv s4 ⟨k,H4,I4,r4,q4⟩=>?_) λ_ _ z=>z)
 have hv:=hv ah s4 σ H4 _ I4 q4;rw[hx]at hv;refine aS (i7 (nK hv (λvv s5 ⟨v,H5,I5,r5,cG,a,ks,e0,hD,ha,hn,hz,q⟩=>?_) λ_ _ z=>z))
 subst e0;cases r4;refine aS (BB (i7 ?_));obtain⟨xs,dh,pr,_,hy⟩:=I5.Jq hD;have aF:cG.length=xs.length:=Paired.length pr;have hno:atKey xs ks=none:=by
  cases e:atKey xs ks with
  |none=>rfl
  |some p=>exfalso;obtain⟨x,x1,x2⟩:=AT.mp e;obtain⟨y,y1,y2,_⟩:=gR pr x (List.mem_of_find?_eq_some x1);have x3:=List.find?_some x1;exact hn (lS.mpr ⟨y,y1,y2.trans (nS x3)⟩)
 refine wpAny_dictSet_heap (knd:=Uk X) (show X.A.units<cLine from hu) (I5.ud (.inl (.inl ha))) dh (λh' m' sb=>?_) ⋯
 rw[storedH_new hno]at m';obtain⟨o,es,ep,f1,f2,f3,f4,f5,f6⟩:=m';have ne:∀{b:Addr}{ys:List V},H5 b=some (.tup ys)->b≠D:=λe z=>by rw[z,hD]at e;cases e
 refine⟨σ,_,I5.write (o:=.dT (cG++[(ks,v)])) (by rw[hD];trivial) (.inl rfl) (λb u hb e=>(sb.2 b hb).trans e) ⟨o,f1⟩ ?_,q⟩
 refine⟨by rw[eQ];exact hz,hy,xs++[(ks,a,vv)],?_,o,es,ep,f1,f2,f3,f4,f6⟩
 refine Paired.snoc (Paired.J1 pr λp q ⟨g1,g2,g3⟩=>⟨g1,by rw[az (ne g2)];exact g2,g3⟩) ⟨rfl,by rw[az (ne ha)];exact ha,r5⟩
end
section
variable{X:Cx}{tg iter kx vx:Expr}{ifs:List Expr}{scope:Scope}{pos:Pos}
theorem FJ:Ck X (.DictComp kx vx [⟨tg,iter,ifs,0⟩] scope pos) tg iter ifs [] newDict (.dT []) (Jr kx vx) where
 cls:=rfl
 V8:=λ_ _ _ _ _ _ _=>⟨rfl,rfl⟩
 turn:=λit D env=>compTurn_dict kx vx tg iter ifs scope pos it D env
 new:=⟨_,rfl,λh=>lL h,λ_ _ _ e y=>⟨nV _,y,[],.nil,_,#[],0,e,⟨rfl,rfl,rfl⟩,rfl,rfl,wT⟩⟩
 start:=codeAny_compStart_dict
theorem zO{N':List Str}{k:Nat}{wi:TI}{g:Bk->TG}{tt:Bk->TT}{tk tv:Bk->TE}(B:cz X.env.scope scope)(hc:X.calm=true)(hu:X.A.units<cLine)(hN:Names X.N N' scope k)(hi:PI X tg iter wi)
  (hin:∀b:Bk,PG (X.blk N' scope b) tg (g b)/\o9 (X.blk N' scope b) ifs (tt b)/\PE (X.blk N' scope b) kx (tk b)/\PE (X.blk N' scope b) vx (tv b))
  (hs:∀x,foldedSetIterable iter X.env x=pure x:=by intro _;rfl):PE X (.DictComp kx vx [⟨tg,iter,ifs,0⟩] scope pos) (pq (.dT []) X k wi g tt λD b=>K9 D (tk b) (tv b)):=by
 intro ah s σ H Q I h;rw[arm_eval_DictComp];refine ji (use:=none) B hc hN hi FJ (λb D=>⟨(hin b).1,(hin b).2.1,La hu (hin b).2.2.1 (hin b).2.2.2 rfl⟩) hs I h λs' H' D C m I' f' hn q=>?_
 refine⟨m,hn,λh' sb=>⟨.ref D,H',?_,rfl,q⟩⟩
 obtain⟨f0,f1,f2,f3,f4,f5⟩:=f';exact I'.turned (t':=s'.toks) (λb o hb e=>(sb.2 b hb).trans e) f0 f1 f3 f4 f5
end
end L2
namespace Ev
open L2
inductive D where
 |non |bl (b:Bool) |int (i:Int) |str (x:Str) |tup (l:List D) |lst (l:List D) |fix (l:List D) |emp |vG (C:Addr) |qB (ks:List (List Int)) (ds:List D)
 deriving Inhabited
inductive Slot where
 |no |dat (d:D) |own (l:List D)
 deriving Inhabited
inductive R where
 |dat (d:D) |new (l:List D) |var (i:Nat)
 deriving Inhabited
abbrev G:=List Slot
abbrev Sg:=L2.St
abbrev K0:Hp:=λ_=>none
def LstAt(M:List Addr)(H:Hp)(a:Addr)(xs:List V):Prop:=a∉M/\H a=some (.lst xs)
def kM(K:Frag)(M:List Addr)(H:Hp)(a:Addr)(xs:List V):Prop:=(a∉M/\∃o,H a=some (.yR o (.lst xs)))\/bU K K0 a xs
def TupAt(K:Frag)(M:List Addr)(H:Hp)(a:Addr)(xs:List V):Prop:=(a∉M/\Rd H a (.tup xs))\/(eZ K K0 a xs/\∃o,K.lookup a=some o/\o.dict=none)
theorem XQ(h:Rd K0 a u):False:=by rcases h with h |⟨o,h⟩ <;> cases h
theorem kM.sq{K:Frag}{M:List Addr}{H:Hp}{a:Addr}{xs:List V}(h:kM K M H a xs):bU K H a xs:=by
 rcases h with ⟨_,o,h⟩ |h |h
 . exact .inl (.inr ⟨o,h⟩)
 . exact (XQ h).elim
 . exact .inr h
theorem TupAt.sq{K:Frag}{M:List Addr}{H:Hp}{a:Addr}{xs:List V}(h:TupAt K M H a xs):eZ K H a xs:=by
 rcases h with ⟨_,h⟩ |⟨h |h,_⟩
 . exact .inl h
 . exact (XQ h).elim
 . exact .inr h
noncomputable abbrev Wi(C a:Addr):HO:=.ext λh=>∃o,h.get? a=some o/\o.cls=.ref C/\PySem.W.notCls o=true/\o.dict=none
structure Rp(K:Frag)(C:Addr):Prop where
 Zf:PySem.W.findIn K (.ref C) "__getattribute__"=some (some (.builtin "BaseException.__getattribute__"))
 Zg:PySem.W.findIn K (.ref C) "__getattr__"=some none
 Zh:PySem.W.mroIn K C (.type "BaseException")=some true
 dct:PySem.W.hasDictIn K C=true
 cls:PySem.W.findIn K (.ref C) "__class__"=some (some (.builtin "object.__class__"))
 Zi:PySem.W.specialIn K (.builtin "object.__class__") "__get__"=some (some (.builtin "getset_descriptor.__get__"))
 tks:PySem.W.takesIn K (.builtin "object.__class__")=some true
 mro:PySem.W.mroIn K C (.type "object")=some true
 kit:∀n∈["int", "bool", "str", "tuple", "list", "dict"],PySem.W.kitOne K (.ref C) (.type n)=some false
noncomputable abbrev zP(ks:List (List Int))(vs:List V):HO:=.dT ((ks.map (List.map Sum.inl)).zip vs)
def Wj:HO->Prop
 |.lst _ |.dT _=>True
 |_=>False
mutual
inductive Rep(K:Frag)(M:List Addr)(H:Hp):D->V->Prop
 |non:Rep K M H .non .non
 |bl (b:Bool):Rep K M H (.bl b) (.bl b)
 |int (i:Int):Rep K M H (.int i) (.int i)
 |str (x:Str):Rep K M H (.str x) (.str x)
 |tup {l:List D}{a:Addr}{xs:List V}:TupAt K M H a xs->aC K M H l xs->Rep K M H (.tup l) (.ref a)
 |lst {l:List D}{a:Addr}{xs:List V}:LstAt M H a xs->aC K M H l xs->Rep K M H (.lst l) (.ref a)
 |fix {l:List D}{a:Addr}{xs:List V}:kM K M H a xs->aC K M H l xs->Rep K M H (.fix l) (.ref a)
 |emp:a∉M->H a=some (.dK [])->Rep K M H .emp (.ref a)
 |vG:Rp K C->a∉M->H a=some (Wi C a)->Rep K M H (.vG C) (.ref a)
 |qB {ks:List (List Int)}{ds:List D}{a:Addr}{vs:List V}:a∉M->H a=some (zP ks vs)->ks.length=vs.length->aC K M H ds vs->Rep K M H (.qB ks ds) (.ref a)
inductive aC(K:Frag)(M:List Addr)(H:Hp):List D->List V->Prop
 |nil:aC K M H [] []
 |cons {d:D}{ds:List D}{x:V}{xs:List V}:Rep K M H d x->aC K M H ds xs->aC K M H (d::ds) (x::xs)
end
def ao(M:List Addr)(H:Hp)(M':List Addr)(H':Hp):Prop:=∀b o,H b=some o->b∉M->H' b=some o/\b∉M'
theorem ao.rd(h:ao M H M' H')(n:a∉M)(r:Rd H a u):a∉M'/\Rd H' a u:=by
 rcases r with r |⟨o,r⟩
 . exact⟨(h _ _ r n).2,.inl (h _ _ r n).1⟩
 . exact⟨(h _ _ r n).2,.inr ⟨o,(h _ _ r n).1⟩⟩
theorem Rep.stay{K:Frag}{M M':List Addr}{H H':Hp}(h:ao M H M' H'){d:D}{v:V}(r:Rep K M H d v):Rep K M' H' d v:=by
 refine Rep.rec (motive_1:=λd v _=>Rep K M' H' d v) (motive_2:=λds vs _=>aC K M' H' ds vs) .non .bl .int .str (λt _ q=>?_) (λt _ q=>?_) (λt _ q=>?_) (λn r=>.emp (h _ _ r n).2 (h _ _ r n).1) (λx n r=>.vG x (h _ _ r n).2 (h _ _ r n).1) (λn r l _ q=>.qB (h _ _ r n).2 (h _ _ r n).1 l q) .nil (λ_ _ a b=>.cons a b) r
 .
  rcases t with t |t
  . exact .tup (.inl (h.rd t.1 t.2)) q
  . exact .tup (.inr t) q
 . exact .lst ⟨(h _ _ t.2 t.1).2,(h _ _ t.2 t.1).1⟩ q
 .
  rcases t with ⟨n,o,r⟩ |t
  . exact .fix (.inl ⟨(h _ _ r n).2,o,(h _ _ r n).1⟩) q
  . exact .fix (.inr t) q
theorem aC.stay{K:Frag}{M M':List Addr}{H H':Hp}(h:ao M H M' H'):∀{ds:List D}{vs:List V},aC K M H ds vs->aC K M' H' ds vs:=by
 intro ds
 induction ds with
 |nil=>intro vs q;cases q;exact .nil
 |cons d ds ih=>intro vs q;cases q with |cons a b=>exact .cons (a.stay h) (ih b)
theorem ao.refl(M:List Addr)(H:Hp):ao M H M H:=λ_ _ e n=>⟨e,n⟩
theorem ao.trans(a:ao M H M1 H1)(b:ao M1 H1 M2 H2):ao M H M2 H2:=λc o e n=>b c o (a c o e n).1 (a c o e n).2
theorem ao.less(h:∀m∈M',m∈M):ao M H M' H:=λ_ _ e n=>⟨e,λz=>n (h _ z)⟩
theorem ao.laid(hp:H p=none):ao M H M (upd H p o):=λb u e n=>⟨by rw[az (aG e hp)];exact e,n⟩
theorem ao.aK(hp:H p=none):ao M H (p::M) (upd H p o):=λb u e n=>
 ⟨by rw[az (aG e hp)];exact e,λz=>(dS.mp z).elim (λq=>aG e hp q) n⟩
theorem ao.write(hp:p∈M):ao M H M (upd H p o):=λb u e n=>⟨by rw[az (λq=>n (by rw[q];exact hp))];exact e,n⟩
theorem aC.length{K:Frag}{M:List Addr}{H:Hp}{ds:List D}{vs:List V}(r:aC K M H ds vs):ds.length=vs.length:=by
 induction ds generalizing vs with
 |nil=>cases r;rfl
 |cons d ds ih=>cases r with |cons a b=>exact congrArg (· + 1) (ih b)
theorem aC.append{K:Frag}{M:List Addr}{H:Hp}{ds es:List D}{vs ws:List V}(r:aC K M H ds vs)(s:aC K M H es ws):aC K M H (ds++es) (vs++ws):=by
 induction ds generalizing vs with
 |nil=>cases r;exact s
 |cons d ds ih=>cases r with |cons a b=>exact .cons a (ih b)
theorem aC.get{K:Frag}{M:List Addr}{H:Hp}{ds:List D}{vs:List V}{i:Nat}{d:D}(r:aC K M H ds vs)(e:ds[i]?=some d):∃v,vs[i]?=some v/\Rep K M H d v:=by
 induction ds generalizing vs i with
 |nil=>exact nomatch (show none=some d from e)
 |cons d' ds ih=>cases r with |cons a b=>cases i with
  |zero=>cases (show some d'=some d from e);exact⟨_,rfl,a⟩
  |succ i=>obtain⟨v,h⟩:=ih (i:=i) b e;exact⟨v,h⟩
theorem aC.set{K:Frag}{M:List Addr}{H:Hp}{d:D}{v:V}(r:Rep K M H d v){ds:List D}{vs:List V}(i:Nat)(q:aC K M H ds vs):aC K M H (ds.set i d) (vs.set i v):=by
 induction ds generalizing vs i with
 |nil=>cases q;exact .nil
 |cons d' ds ih=>cases q with |cons a b=>cases i with
  |zero=>exact .cons r b
  |succ i=>exact .cons a (ih i b)
theorem aC.take{K:Frag}{M:List Addr}{H:Hp}{ds:List D}{vs:List V}(n:Nat)(q:aC K M H ds vs):aC K M H (ds.take n) (vs.take n):=by
 induction ds generalizing vs n with
 |nil=>cases q;rw[List.take_nil,List.take_nil];exact .nil
 |cons d' ds ih=>cases q with |cons a b=>cases n with
  |zero=>exact .nil
  |succ n=>exact .cons a (ih n b)
theorem aC.drop{K:Frag}{M:List Addr}{H:Hp}{ds:List D}{vs:List V}(n:Nat)(q:aC K M H ds vs):aC K M H (ds.drop n) (vs.drop n):=by
 induction ds generalizing vs n with
 |nil=>cases q;rw[List.drop_nil,List.drop_nil];exact .nil
 |cons d' ds ih=>cases q with |cons a b=>cases n with
  |zero=>exact .cons a b
  |succ n=>exact ih n b
theorem aC.reverse{K:Frag}{M:List Addr}{H:Hp}{ds:List D}{vs:List V}(q:aC K M H ds vs):aC K M H ds.reverse vs.reverse:=by
 induction ds generalizing vs with
 |nil=>cases q;exact .nil
 |cons d ds ih=>cases q with |cons a b=>rw[BU,BU];exact (ih b).append (.cons a .nil)
inductive Slots(K:Frag)(M:List Addr)(H:Hp):G->Sg->List Addr->Prop
 |nil:Slots K M H [] [] []
 |no:Slots K M H g σ As->Slots K M H (.no::g) (v::σ) As
 |dat {g:G}{σ:Sg}{As:List Addr}{v:V}{d:D}:Rep K M H d v->Slots K M H g σ As->Slots K M H (.dat d::g) (some v::σ) As
 |own {g:G}{σ:Sg}{As:List Addr}{a:Addr}{xs:List V}{ds:List D}:H a=some (.lst xs)->aC K M H ds xs->Slots K M H g σ As->Slots K M H (.own ds::g) (some (.ref a)::σ) (a::As)
theorem Slots.stay{K:Frag}{M M':List Addr}{H H':Hp}(h:ao M H M' H'){g:G}{σ:Sg}{As:List Addr}(k:∀a∈As,∀o,H a=some o->H' a=some o)(q:Slots K M H g σ As):Slots K M' H' g σ As:=by
 induction q with
 |nil=>exact .nil
 |no q ih=>exact .no (ih k)
 |dat r q ih=>exact .dat (r.stay h) (ih k)
 |own e r q ih=>exact .own (k _ dC _ e) (r.stay h) (ih λa ha=>k a (b0 _ ha))
def dN(K:Frag):List (Addr×Str):=K.filterMap λp=>match p.2.data with
 |.fields vs=>(match vs.toList with
  |_::.str n _::_=>if (n==("law":Str))=true then (match vs.toList[11]? with
   |some (Value.ref q)=>if (K.lookup q).isNone=true then some (q,("law.<locals>.<lambda>":Str))else none
   |_=>none)else none
  |_=>none)
 |_=>none
structure Z where
 K:Frag
 H0:Hp
 M0:List Addr
 lent:List (Nat×Addr)
 T:List (Addr×Str)
abbrev Wk(q:Str)(c:Addr):HO:=.ext λh=>h.CodeRec (.ref c) q
def TabOk(H:Hp)(p:Addr×Str):Prop:=∃ps:Array Value,H p.1=some (.yS ps)/\TriplesOk ps.toList/\∀pos cv,codeAmong pos ps.toList=some cv->∃c,cv=.ref c/\H c=some (Wk p.2 c)
noncomputable abbrev Z.TA(z:Z):List Addr:=z.T.map (·.1)
theorem TabOk.keep{H H':Hp}{p:Addr×Str}(t:TabOk H p)(k:∀b o,H b=some o->¬ Wj o->H' b=some o):TabOk H' p:=by obtain⟨ps,h1,h2,h3⟩:=t;exact⟨ps,k _ _ h1 id,h2,λpos cv e=>let ⟨c,e1,e2⟩:=h3 pos cv e;⟨c,e1,k _ _ e2 id⟩⟩
noncomputable abbrev Z.B(z:Z):List Addr:=z.lent.map (·.2)
abbrev Z.bor(z:Z):List Nat:=z.lent.map (·.1)
structure S(z:Z)(g:G)(σ:Sg)(As M:List Addr)(H:Hp):Prop where
 sl:Slots z.K M H g σ As
 nd:As.Nodup
 sub:∀a∈As,a∈M
 own:∀(i:Nat) (a:Addr) (l:List D),g[i]?=some (.own l)->σ[i]?=some (some (.ref a))->(i∈z.bor/\a∈z.B)\/z.H0 a=none
 live:∀m∈M,(∃o,H m=some o/\Wj o)\/m∈z.TA
 keep:∀b o,z.H0 b=some o->b∉z.B->b∉z.TA->H b=some o
 mQ:∀m∈z.M0,m∈M
 m0:∀m∈z.M0,z.H0 m≠none
 bm:∀b∈z.B,b∈z.M0
 kN:∀p∈z.lent,σ[p.1]?=some (some (.ref p.2))/\∃l,g[p.1]?=some (.own l)
 tab:∀p∈z.T,TabOk H p
 tm:∀p∈z.T,p.1∈z.M0
 tt:z.T=dN z.K
section
variable{g:G}
theorem S.fresh(s:S z g σ As M H)(hp:H p=none):p∉M:=λhm=>by
 rcases s.live p hm with ⟨o,e,_⟩ |e
 . rw[hp]at e;cases e
 . obtain⟨q,hq,rfl⟩:=lS.mp e;obtain⟨ps,h1,_⟩:=s.tab q hq;rw[hp]at h1;cases h1
theorem S.Rq(s:S z g σ As M H)(hp:H p=some (.lst xs)):p∉z.TA:=λe=>by
 obtain⟨q,hq,rfl⟩:=lS.mp e;obtain⟨ps,h1,_⟩:=s.tab q hq;rw[hp]at h1;cases h1
theorem S.bQ(s:S z g σ As M H)(hp:H p=none):z.H0 p=none:=by
 cases e:z.H0 p with
 |none=>rfl
 |some o=>
  by_cases hb:p∈z.B
  . exact absurd (s.mQ _ (s.bm _ hb)) (s.fresh hp)
  .
   by_cases ht:p∈z.TA
   . obtain⟨q,hq,rfl⟩:=lS.mp ht;exact absurd (s.mQ _ (s.tm q hq)) (s.fresh hp)
   . rw[s.keep p o e hb ht]at hp;cases hp
theorem S.laid(s:S z g σ As M H){p:Addr}{o:HO}(hp:H p=none):S z g σ As M (upd H p o) where
 sl:=s.sl.stay (ao.laid hp) λa _ u e=>by rw[az (aG e hp)];exact e
 nd:=s.nd
 sub:=s.sub
 own:=s.own
 live:=λm hm=>by
  rcases s.live m hm with ⟨o,e,gr⟩ |e
  . exact .inl ⟨o,by rw[az (aG e hp)];exact e,gr⟩
  . exact .inr e
 keep:=λb u e hb ht=>by rw[az (aG (s.keep b u e hb ht) hp)];exact s.keep b u e hb ht
 mQ:=s.mQ
 m0:=s.m0
 bm:=s.bm
 kN:=s.kN
 tab:=λp h=>(s.tab p h).keep λb u e _=>by rw[az (aG e hp)];exact e
 tm:=s.tm
 tt:=s.tt
theorem S.Rr(s:S z g σ As M H){p:Addr}{u0:HO}(gu:Wj u0)(hp:H p=none):S z g σ As (p::M) (upd H p u0) where
 sl:=s.sl.stay (ao.aK hp) λa _ u e=>by rw[az (aG e hp)];exact e
 nd:=s.nd
 sub:=λa ha=>b0 _ (s.sub a ha)
 own:=s.own
 live:=λm hm=>by
  rcases dS.mp hm with rfl |hm
  . exact .inl ⟨_,aD,gu⟩
  .
   rcases s.live m hm with ⟨o,e,gr⟩ |e
   . exact .inl ⟨o,by rw[az (aG e hp)];exact e,gr⟩
   . exact .inr e
 keep:=λb u e hb ht=>by rw[az (aG (s.keep b u e hb ht) hp)];exact s.keep b u e hb ht
 mQ:=λm hm=>b0 _ (s.mQ m hm)
 m0:=s.m0
 bm:=s.bm
 kN:=s.kN
 tab:=λp h=>(s.tab p h).keep λb u e _=>by rw[az (aG e hp)];exact e
 tm:=s.tm
 tt:=s.tt
theorem S.aK(s:S z g σ As M H){p:Addr}{xs:List V}(hp:H p=none):S z g σ As (p::M) (upd H p (.lst xs)):=s.Rr trivial hp
theorem S.drop(s:S z g σ As M H)(h0:z.H0 p=none)(hA:p∉As):S z g σ As (M.filter λm=>decide (m≠p)) H where
 sl:=s.sl.stay (ao.less λm hm=>(n0.mp hm).1) λ_ _ _ e=>e
 nd:=s.nd
 sub:=λa ha=>n0.mpr ⟨s.sub a ha,by have:a≠p:=λe=>hA (e▸ha);simpa using this⟩
 own:=s.own
 live:=λm hm=>s.live m (n0.mp hm).1
 keep:=s.keep
 mQ:=λm hm=>n0.mpr ⟨s.mQ m hm,by have:m≠p:=λe=>s.m0 m hm (e▸h0);simpa using this⟩
 m0:=s.m0
 bm:=s.bm
 kN:=s.kN
 tab:=s.tab
 tm:=s.tm
 tt:=s.tt
end
def dX(z:Z)(g:G)(σ:Sg)(As M:List Addr)(H:Hp):R->V->Prop
 |.dat d,v=>Rep z.K M H d v
 |.new l,v=>∃a xs,v=.ref a/\a∈M/\a∉As/\z.H0 a=none/\H a=some (.lst xs)/\aC z.K M H l xs
 |.var i,v=>∃l,g[i]?=some (.own l)/\σ[i]?=some (some v)
inductive Pk(K:Frag)(M:List Addr)(H:Hp):D->V->Prop
 |of:Rep K M H d v->Pk K M H d v
 |lst {l:List D}{a:Addr}{xs:List V}:H a=some (.lst xs)->aC K M H l xs->Pk K M H (.lst l) (.ref a)
theorem Pk.list{K:Frag}{M:List Addr}{H:Hp}{l:List D}{v:V}(h:Pk K M H (.lst l) v):∃a xs,v=.ref a/\H a=some (.lst xs)/\aC K M H l xs:=by
 cases h with
 |of r=>cases r with |lst h1 h2=>exact⟨_,_,rfl,h1.2,h2⟩
 |lst h1 h2=>exact⟨_,_,rfl,h1,h2⟩
theorem Slots.at{K:Frag}{M:List Addr}{H:Hp}{g:G}{σ:Sg}{As:List Addr}{i:Nat}{l:List D}(q:Slots K M H g σ As)(e:g[i]?=some (.own l)):∃a xs,σ[i]?=some (some (.ref a))/\a∈As/\H a=some (.lst xs)/\aC K M H l xs:=by
 induction q generalizing i with
 |nil=>exact nomatch (show none=some (Slot.own l)from e)
 |no q ih=>cases i with
  |zero=>exact nomatch (show some Slot.no=some (Slot.own l)from e)
  |succ i=>exact ih e
 |dat r q ih=>cases i with
  |zero=>exact nomatch (show some (Slot.dat _)=some (Slot.own l)from e)
  |succ i=>exact ih e
 |own h r q ih=>cases i with
  |zero=>cases (show some (Slot.own _)=some (Slot.own l)from e);exact⟨_,_,rfl,dC,h,r⟩
  |succ i=>obtain⟨a,xs,h1,h2,h3⟩:=ih e;exact⟨a,xs,h1,b0 _ h2,h3⟩
theorem Slots.vH{K:Frag}{M:List Addr}{H:Hp}{g:G}{σ:Sg}{As:List Addr}{i:Nat}{d:D}(q:Slots K M H g σ As)(e:g[i]?=some (.dat d)):∃v,σ[i]?=some (some v)/\Rep K M H d v:=by
 induction q generalizing i with
 |nil=>exact nomatch (show none=some (Slot.dat d)from e)
 |no q ih=>cases i with
  |zero=>exact nomatch (show some Slot.no=some (Slot.dat d)from e)
  |succ i=>exact ih e
 |dat r q ih=>cases i with
  |zero=>cases (show some (Slot.dat _)=some (Slot.dat d)from e);exact⟨_,rfl,r⟩
  |succ i=>exact ih e
 |own h r q ih=>cases i with
  |zero=>exact nomatch (show some (Slot.own _)=some (Slot.dat d)from e)
  |succ i=>exact ih e
theorem Slots.length{K:Frag}{M:List Addr}{H:Hp}{g:G}{σ:Sg}{As:List Addr}(q:Slots K M H g σ As):g.length=σ.length:=by
 induction q with
 |nil=>rfl
 |no q ih=>exact congrArg (· + 1) ih
 |dat r q ih=>exact congrArg (· + 1) ih
 |own h r q ih=>exact congrArg (· + 1) ih
theorem Slots.gS{K:Frag}{M:List Addr}{H:Hp}{d:D}{v:V}(r:Rep K M H d v){g:G}{σ:Sg}{As:List Addr}(i:Nat)(q:Slots K M H g σ As):∃au,Slots K M H (g.set i (.dat d)) (σ.set i (some v)) au/\au.Sublist As:=by
 induction q generalizing i with
 |nil=>exact⟨[],.nil,.slnil⟩
 |no q ih=>cases i with
  |zero=>exact⟨_,.dat r q,List.Sublist.refl _⟩
  |succ i=>obtain⟨au,h1,h2⟩:=ih i;exact⟨au,.no h1,h2⟩
 |dat r' q ih=>cases i with
  |zero=>exact⟨_,.dat r q,List.Sublist.refl _⟩
  |succ i=>obtain⟨au,h1,h2⟩:=ih i;exact⟨au,.dat r' h1,h2⟩
 |own e r' q ih=>cases i with
  |zero=>exact⟨_,.dat r q,List.sublist_cons_self _ _⟩
  |succ i=>obtain⟨au,h1,h2⟩:=ih i;exact⟨_::au,.own e r' h1,h2.cons₂ _⟩
theorem Slots.freeze{K:Frag}{M M':List Addr}{H:Hp}(hM:∀m∈M',m∈M){g:G}{σ:Sg}{As:List Addr}{i:Nat}{l:List D}{a:Addr}(q:Slots K M H g σ As)(e:g[i]?=some (.own l))(e2:σ[i]?=some (some (.ref a)))(na:a∉M')(nd:As.Nodup) :
  ∃au,Slots K M' H (g.set i (.dat (.lst l))) σ au/\au.Sublist As/\a∉au:=by
 induction q generalizing i with
 |nil=>exact nomatch (show none=some (Slot.own l)from e)
 |no q ih=>cases i with
  |zero=>exact nomatch (show some Slot.no=some (Slot.own l)from e)
  |succ i=>obtain⟨au,h1,h2,h3⟩:=ih e e2 nd;exact⟨au,.no h1,h2,h3⟩
 |dat r q ih=>cases i with
  |zero=>exact nomatch (show some (Slot.dat _)=some (Slot.own l)from e)
  |succ i=>obtain⟨au,h1,h2,h3⟩:=ih e e2 nd;exact⟨au,.dat (r.stay (ao.less hM)) h1,h2,h3⟩
 |@own g σ As b xs ds h r q ih=>cases i with
  |zero=>
   cases (show some (Slot.own _)=some (Slot.own l)from e)
   cases (show some (some (V.ref b))=some (some (V.ref a))from e2)
   exact⟨_,.dat (.lst ⟨na,h⟩ (r.stay (ao.less hM))) (q.stay (ao.less hM) λ_ _ _ e=>e),List.sublist_cons_self _ _,(i3.mp nd).1⟩
  |succ i=>
   obtain⟨au,h1,h2,h3⟩:=ih e e2 (i3.mp nd).2;refine⟨b::au,.own h (r.stay (ao.less hM)) h1,h2.cons₂ _,λhm=>?_⟩
   rcases dS.mp hm with z |z
   .
    obtain⟨c,xs,z1,z2,_⟩:=q.at (i:=i) e;cases (show some (some (V.ref c))=some (some (V.ref a))from z1.symm.trans e2)
    exact (i3.mp nd).1 (by rw[<- z];exact z2)
   . exact h3 z
theorem Slots.change{K:Frag}{M:List Addr}{H H':Hp}{l':List D}{a:Addr}{xs':List V}(st:ao M H M H')(ha:H' a=some (.lst xs'))(r':aC K M H' l' xs'){g:G}{σ:Sg}{As:List Addr}{i:Nat}{l:List D}(q:Slots K M H g σ As)(e:g[i]?=some (.own l))(e2:σ[i]?=some (some (.ref a)))(nd:As.Nodup)
  (k:∀b∈As,b≠a->∀o,H b=some o->H' b=some o):Slots K M H' (g.set i (.own l')) σ As:=by
 induction q generalizing i with
 |nil=>exact nomatch (show none=some (Slot.own l)from e)
 |no q ih=>cases i with
  |zero=>exact nomatch (show some Slot.no=some (Slot.own l)from e)
  |succ i=>exact .no (ih e e2 nd k)
 |dat r q ih=>cases i with
  |zero=>exact nomatch (show some (Slot.dat _)=some (Slot.own l)from e)
  |succ i=>exact .dat (r.stay st) (ih e e2 nd k)
 |@own g σ As b xs ds h r q ih=>cases i with
  |zero=>
   cases (show some (some (V.ref b))=some (some (V.ref a))from e2)
   exact .own ha r' (q.stay st λc hc o e=>k c (b0 _ hc) (λz=>(i3.mp nd).1 (by rw[<- z];exact hc)) o e)
  |succ i=>
   refine .own (k b dC (λz=>?_) _ h) (r.stay st) (ih e e2 (i3.mp nd).2 λc hc=>k c (b0 _ hc))
   obtain⟨c,xs,z1,z2,_⟩:=q.at (i:=i) e;cases (show some (some (V.ref c))=some (some (V.ref a))from z1.symm.trans e2)
   exact (i3.mp nd).1 (by rw[z];exact z2)
section
variable{g:G}
theorem dY(h:(g.set i (.dat d))[j]?=some (.own l)):g[j]?=some (.own l)/\j≠i:=by
 by_cases e:i=j
 .
  subst e;by_cases hi:i<g.length
  . rw[i9 hi]at h;cases h
  . rw[AB.mpr (by rw[tS];lia)]at h;cases h
 . rw[i4 e]at h;exact⟨h,t9 e⟩
theorem S.freeze(s:S z g σ As M H){i:Nat}{l:List D}(hg:g[i]?=some (.own l))(hb:i∉z.bor):∃au M',S z (g.set i (.dat (.lst l))) σ au M' H/\ao M H M' H:=by
 obtain⟨a,xs,e1,e2,e3,e4⟩:=s.sl.at hg;have h0:z.H0 a=none:=(s.own i a l hg e1).elim (λq=>absurd q.1 hb) id
 have hM:∀m∈(M.filter λm=>decide (m≠a)),m∈M:=λm hm=>(n0.mp hm).1
 have na:a∉(M.filter λm=>decide (m≠a)):=λhm=>by
  have:=(n0.mp hm).2;simp at this
 obtain⟨au,q1,q2,q3⟩:=s.sl.freeze hM hg e1 na s.nd;refine⟨au,_,⟨q1,s.nd.sublist q2,λb hb=>n0.mpr ⟨s.sub b (q2.subset hb),?_⟩,λj b l' h1 h2=>s.own j b l' (dY h1).1 h2,λm hm=>s.live m (hM m hm),s.keep,λm hm=>n0.mpr ⟨s.mQ m hm,?_⟩,s.m0,s.bm,λp hp=>⟨(s.kN p hp).1,?_⟩,s.tab,s.tm,s.tt⟩,ao.less hM⟩
 rotate_left 2
 .
  have:i≠p.1:=λe=>hb (by rw[e];exact u4 (f:=(·.1)) hp)
  rw[i4 this];exact (s.kN p hp).2
 .
  have:b≠a:=λe=>q3 (e▸hb)
  simpa using this
 .
  have:m≠a:=λe=>s.m0 m hm (e▸h0)
  simpa using this
theorem S.write(s:S z g σ As M H){i:Nat}{l l':List D}{a:Addr}{xs':List V}(hg:g[i]?=some (.own l))(e1:σ[i]?=some (some (.ref a)))(r:aC z.K M H l' xs'):S z (g.set i (.own l')) σ As M (upd H a (.lst xs'))/\ao M H M (upd H a (.lst xs')):=by
 obtain⟨b,xs,e2,e3,e4,e5⟩:=s.sl.at hg;rw[e1]at e2;injection e2 with e2;injection e2 with e2;injection e2 with e2;subst e2;have st:ao M H M (upd H a (.lst xs')):=ao.write (s.sub a e3);refine⟨⟨s.sl.change st aD (r.stay st) hg e1 s.nd (λb _ ne o e=>by rw[az ne];exact e),s.nd,s.sub,λj b l2 h1 h2=>?_,λm hm=>?_,λb o e hb ht=>?_,s.mQ,s.m0,s.bm,λp hp=>⟨(s.kN p hp).1,?_⟩,λp h=>(s.tab p h).keep λb u e nl=>?_,s.tm,s.tt⟩,st⟩
 rotate_left 3
 .
  by_cases hj:i=p.1
  . rw[<- hj];exact⟨l',i9 (dE.mp hg).1⟩
  . rw[i4 hj];exact (s.kN p hp).2
 .
  have:b≠a:=λz2=>by subst z2;rw[e4]at e;cases e;exact nl trivial
  rw[az this];exact e
 .
  by_cases hj:i=j
  . subst hj;exact s.own i b l hg h2
  . rw[i4 hj]at h1;exact s.own j b l2 h1 h2
 .
  by_cases hm2:m=a
  . subst hm2;exact .inl ⟨_,aD,trivial⟩
  .
   rcases s.live m hm with ⟨o,e,gr⟩ |e
   . exact .inl ⟨o,by rw[az hm2];exact e,gr⟩
   . exact .inr e
 .
  have q:=s.keep b o e hb ht;have:b≠a:=λz2=>by
   subst z2;rcases s.own i b l hg e1 with w |w
   . exact hb w.2
   . rw[w]at e;cases e
  rw[az this];exact q
theorem S.gS(s:S z g σ As M H)(hb:i∉z.bor)(r:Rep z.K M H d v):∃au,S z (g.set i (.dat d)) (σ.set i (some v)) au M H:=by
 obtain⟨au,h1,h2⟩:=s.sl.gS r i;refine⟨au,h1,s.nd.sublist h2,λa ha=>s.sub a (h2.subset ha),λj b l h3 h4=>?_,s.live,s.keep,s.mQ,s.m0,s.bm,λp hp=>?_,s.tab,s.tm,s.tt⟩
 rotate_left
 .
  have:i≠p.1:=λe=>hb (by rw[e];exact u4 (f:=(·.1)) hp)
  rw[i4 this,i4 this];exact s.kN p hp
 obtain⟨h5,h6⟩:=dY h3;rw[i4 (t9 h6)]at h4;exact s.own j b l h5 h4
theorem Slots.pD{K:Frag}{a:Addr}{xs:List V}{l:List D}(h:H a=some (.lst xs))(r:aC K M H l xs){g:G}{σ:Sg}{As:List Addr}(i:Nat)(q:Slots K M H g σ As)(hi:i<g.length):∃au,Slots K M H (g.set i (.own l)) (σ.set i (some (.ref a))) au/\(∀b∈au,b=a\/b∈As)/\(As.Nodup->a∉As->au.Nodup):=by
 induction q generalizing i with
 |nil=>exact absurd hi (l7 _)
 |no q ih=>cases i with
  |zero=>exact⟨_,.own h r q,λb hb=>dS.mp hb,λnd na=>i3.mpr ⟨na,nd⟩⟩
  |succ i=>obtain⟨au,h1,h2,h3⟩:=ih i (yB hi);exact⟨au,.no h1,h2,h3⟩
 |dat r' q ih=>cases i with
  |zero=>exact⟨_,.own h r q,λb hb=>dS.mp hb,λnd na=>i3.mpr ⟨na,nd⟩⟩
  |succ i=>obtain⟨au,h1,h2,h3⟩:=ih i (yB hi);exact⟨au,.dat r' h1,h2,h3⟩
 |@own g σ As c ys ds e r' q ih=>cases i with
  |zero=>exact⟨_,.own h r q,λb hb=>(dS.mp hb).imp id (b0 _),λnd na=>i3.mpr ⟨λz=>na (b0 _ z),(i3.mp nd).2⟩⟩
  |succ i=>obtain⟨au,h1,h2,h3⟩:=ih i (yB hi);exact⟨c::au,.own e r' h1,λb hb=>(dS.mp hb).elim (λz=>.inr (z▸dC)) λz=>(h2 b z).imp id (b0 _),λnd na=>i3.mpr ⟨λz=>(h2 c z).elim (λw=>na (w▸dC)) (i3.mp nd).1,h3 (i3.mp nd).2 λw=>na (b0 _ w)⟩⟩
theorem S.pD(s:S z g σ As M H){i:Nat}{l:List D}{a:Addr}{xs:List V}(hb:i∉z.bor)(hi:i<g.length)(hm:a∈M)(hA:a∉As)(h0:z.H0 a=none)(h:H a=some (.lst xs))(r:aC z.K M H l xs):∃au,S z (g.set i (.own l)) (σ.set i (some (.ref a))) au M H:=by
 obtain⟨au,h1,h2,h3⟩:=s.sl.pD h r i hi;refine⟨au,h1,h3 s.nd hA,λb hb=>(h2 b hb).elim (λe=>e▸hm) (s.sub b),λj b l2 h4 h5=>?_,s.live,s.keep,s.mQ,s.m0,s.bm,λp hp=>?_,s.tab,s.tm,s.tt⟩
 rotate_left
 .
  have:i≠p.1:=λe=>hb (by rw[e];exact u4 (f:=(·.1)) hp)
  rw[i4 this,i4 this];exact s.kN p hp
 by_cases hj:i=j
 .
  subst hj;rw[i9 (by rw[<- s.sl.length];exact hi)]at h5
  injection h5 with h5;injection h5 with h5;injection h5 with h5;subst h5;exact .inr h0
 . rw[i4 hj]at h4 h5;exact s.own j b l2 h4 h5
end
abbrev Kn (z:Z) (g':G) (σ:Sg) (M:List Addr) (H:Hp) (r:R) (Q:VK):Prop:=
 ∀v H' au M',S z g' σ au M' H'->ao M H M' H'->dX z g' σ au M' H' r v->Q v H'
def aq(X:Cx)(z:Z)(e:Expr)(g:G)(r:R)(g':G):Prop:=
 ∃t,PE X e t/\∀σ As M H Q,S z g σ As M H->Kn z g' σ M H r Q->t σ H Q
def bV(X:Cx)(z:Z)(e:Expr)(g:G)(b:Bool)(g':G):Prop:=
 ∃t,PT X e t/\∀σ As M H (Q:Bool->Hp->Prop),S z g σ As M H->(∀H' au M',S z g' σ au M' H'->ao M H M' H'->Q b H')->t σ H Q
def jj(X:Cx)(z:Z)(f:Value->Value->Sem Value)(d1 d2:D)(res:R):Prop:=
 ∃r:R2,jg X f r/\∀g σ As M H v1 v2 Q,S z g σ As M H->Pk z.K M H d1 v1->Pk z.K M H d2 v2->Kn z g σ M H res Q->r v1 v2 H Q
def P6(X:Cx)(z:Z)(d1 d2:D)(res:R):Prop:=
 ∃r:R2,Rf X r/\∀g σ As M H v1 v2 Q,S z g σ As M H->Pk z.K M H d1 v1->Pk z.K M H d2 v2->Kn z g σ M H res Q->r v1 v2 H Q
def XR(X:Cx)(z:Z)(f:Value->Sem Value)(d:D)(res:R):Prop:=
 ∃r:V->Hp->VK->Prop,Ub X f r/\∀g σ As M H v Q,S z g σ As M H->Pk z.K M H d v->Kn z g σ M H res Q->r v H Q
noncomputable def pk:R->G->Option D
 |.dat d,_=>some d
 |.new _,_=>none
 |.var i,g=>match g[i]? with |some (.own l)=>some (.lst l) |some (.dat (.lst l))=>some (.lst l) |_=>none
section
theorem S.pk(s:S z g2 σ As M2 H2)(st:ao M1 H1 M2 H2)(q:dX z g1 σ aR M1 H1 r v)(h:pk r g2=some d):Pk z.K M2 H2 d v:=by
 cases r with
 |dat d'=>have e:d'=d:=l6 h;subst e;exact .of (Rep.stay st q)
 |new l=>cases h
 |var i=>
  obtain⟨l,h1,h2⟩:=q;unfold Ev.pk at h;dsimp only at h;split at h
  . rename_i l' hg;have e:=l6 h;subst e;obtain⟨a,xs,e1,e2,e3,e4⟩:=s.sl.at hg;rw[h2]at e1;injection e1 with e1;injection e1 with e1;subst e1;exact .lst e3 e4
  . rename_i l' hg;have e:=l6 h;subst e;obtain⟨w,e1,e2⟩:=s.sl.vH hg;rw[h2]at e1;injection e1 with e1;injection e1 with e1;exact .of (e1▸e2)
  . cases h
theorem Lb{i j}:aq X z (.Constant (.int i) j pos) g (.dat (.int i)) g:=⟨_,zb,λσ As M H Q s k=>k _ _ _ _ s (ao.refl _ _) (.int i)⟩
theorem Rt{i j}:aq X z (.Constant (.bool i) j pos) g (.dat (.bl i)) g:=⟨_,Qv,λσ As M H Q s k=>k _ _ _ _ s (ao.refl _ _) (.bl i)⟩
theorem Lc{j}:aq X z (.Constant .none j pos) g (.dat .non) g:=⟨_,J5,λσ As M H Q s k=>k _ _ _ _ s (ao.refl _ _) .non⟩
theorem Ld{x j}:aq X z (.Constant (.str x) j pos) g (.dat (.str x)) g:=⟨_,J6,λσ As M H Q s k=>k _ _ _ _ s (ao.refl _ _) (.str x)⟩
theorem Le{i:Nat}{x:Str}(hN:X.N[i]?=some x)(hv:Ea X.env.scope x)(hd:(x==("__debug__":Str))=false)(cM:(x==("__classdict__":Str))=false)(hg:g[i]?=some (.dat d)):aq X z (.Name x pos) g (.dat d) g:=
 ⟨_,je hN hv hd cM,λσ As M H Q s k=>let ⟨v,e,r⟩:=s.sl.vH hg;⟨v,e,k v H As M s (ao.refl _ _) r⟩⟩
theorem FN(hN:X.N[i]?=some x)(hv:Ea X.env.scope x)(hd:(x==("__debug__":Str))=false)(cM:(x==("__classdict__":Str))=false)(hg:g[i]?=some (.own l)):aq X z (.Name x pos) g (.var i) g:=
 ⟨_,je hN hv hd cM,λσ As M H Q s k=>let ⟨a,xs,e,r⟩:=s.sl.at hg;⟨_,e,k _ H As M s (ao.refl _ _) ⟨l,hg,e⟩⟩⟩
theorem FP(hg:Gl X x)(hm:X.mg x=some u)(r:RelV v u)(hr:∀M H,Rep z.K M H d v)(hd:(x==("__debug__":Str))=false):aq X z (.Name x pos) g (.dat d) g:=
 ⟨_,Ep hg hm r hd,λσ As M H Q s k=>k _ H As M s (ao.refl _ _) (hr M H)⟩
theorem kO(h:aq X z e g (.new l) g'):aq X z e g (.dat (.lst l)) g':=by
 obtain⟨t,p,q⟩:=h;refine⟨t,p,λσ As M H Q s k=>q σ As M H Q s λv H' au M' s' st r=>?_⟩
 obtain⟨a,xs,rfl,hm,hA,h0,ha,rr⟩:=r;have hM:∀m∈(M'.filter λm=>decide (m≠a)),m∈M':=λm hm=>(n0.mp hm).1
 have na:a∉(M'.filter λm=>decide (m≠a)):=λhm=>by
  have:=(n0.mp hm).2;simp at this
 exact k _ H' au _ (s'.drop h0 hA) (st.trans (ao.less hM)) (.lst ⟨na,ha⟩ (rr.stay (ao.less hM)))
theorem xx(h:aq X z e g (.var i) g1)(hg:g1[i]?=some (.own l))(hb:i∉z.bor):aq X z e g (.dat (.lst l)) (g1.set i (.dat (.lst l))):=by
 obtain⟨t,p,q⟩:=h;refine⟨t,p,λσ As M H Q s k=>q σ As M H Q s λv H' au M' s' st r=>?_⟩
 obtain⟨l',h1,h2⟩:=r;obtain⟨bf,M2,s2,aM⟩:=s'.freeze hg hb;have hi:i<g1.length:=(dE.mp hg).1;obtain⟨v',e1,e2⟩:=s2.sl.vH (i:=i) (d:=.lst l) (by rw[i9 hi])
 rw[h2]at e1;injection e1 with e1;injection e1 with e1;subst e1;exact k _ H' bf M2 s2 (st.trans aM) e2
theorem Lf(h1:aq X z a g r1 g1)(h2:aq X z b g1 r2 g2)(p1:pk r1 g2=some d1)(p2:pk r2 g2=some d2)(ho:jj X z (binaryOp op) d1 d2 r):aq X z (.BinOp a op b pos) g r g2:=by
 obtain⟨t1,q1,k1⟩:=h1;obtain⟨t2,q2,k2⟩:=h2;obtain⟨rr,o,ko⟩:=ho;exact⟨_,QK o q1 q2,λσ As M H Q s k=>k1 σ As M H _ s λv1 H1 aR M1 s1 dc R1=>k2 σ aR M1 H1 _ s1 λv2 H2 bf M2 s2 aM R2=>
  ko g2 σ bf M2 H2 v1 v2 Q s2 (s2.pk aM R1 p1) (s2.pk (ao.refl _ _) R2 p2) λv H' au M' s' st' R'=>k v H' au M' s' (dc.trans (aM.trans st')) R'⟩
theorem Lg(h1:aq X z a g r1 g1)(h2:aq X z b g1 r2 g2)(p1:pk r1 g2=some d1)(p2:pk r2 g2=some d2)(ho:jj X z (compareOp op) d1 d2 r)(hm:behindInMarks op b=false):aq X z (.Compare a [op] [b] pos) g r g2:=by
 obtain⟨t1,q1,k1⟩:=h1;obtain⟨t2,q2,k2⟩:=h2;obtain⟨rr,o,ko⟩:=ho;exact⟨_,Ez o q1 q2 hm,λσ As M H Q s k=>k1 σ As M H _ s λv1 H1 aR M1 s1 dc R1=>k2 σ aR M1 H1 _ s1 λv2 H2 bf M2 s2 aM R2=>
  ko g2 σ bf M2 H2 v1 v2 Q s2 (s2.pk aM R1 p1) (s2.pk (ao.refl _ _) R2 p2) λv H' au M' s' st' R'=>k v H' au M' s' (dc.trans (aM.trans st')) R'⟩
theorem Ru(h1:aq X z a g r1 g1)(h2:aq X z b g1 r2 g2)(p1:pk r1 g2=some d1)(p2:pk r2 g2=some d2)(ho:P6 X z d1 d2 r)(hs:oZ b):aq X z (.Subscript a b pos) g r g2:=by
 obtain⟨t1,q1,k1⟩:=h1;obtain⟨t2,q2,k2⟩:=h2;obtain⟨rr,o,ko⟩:=ho;exact⟨_,Rg o q1 q2 hs,λσ As M H Q s k=>k1 σ As M H _ s λv1 H1 aR M1 s1 dc R1=>k2 σ aR M1 H1 _ s1 λv2 H2 bf M2 s2 aM R2=>
  ko g2 σ bf M2 H2 v1 v2 Q s2 (s2.pk aM R1 p1) (s2.pk (ao.refl _ _) R2 p2) λv H' au M' s' st' R'=>k v H' au M' s' (dc.trans (aM.trans st')) R'⟩
theorem Rv(h1:aq X z a g r1 g1)(p1:pk r1 g1=some d1)(ho:XR X z (unaryOp op) d1 r):aq X z (.UnaryOp op a pos) g r g1:=by obtain⟨t1,q1,k1⟩:=h1;obtain⟨rr,o,ko⟩:=ho;exact⟨_,Jp o q1,λσ As M H Q s k=>k1 σ As M H _ s λv1 H1 aR M1 s1 dc R1=>ko g1 σ aR M1 H1 v1 Q s1 (s1.pk (ao.refl _ _) R1 p1) λv H' au M' s' st' R'=>k v H' au M' s' (dc.trans st') R'⟩
theorem dZ(q:dX z g σ As M H (.dat (.bl c)) v):v=.bl c:=by have q':Rep z.K M H (.bl c) v:=q;cases q';rfl
theorem Lh(h1:aq X z a g r1 g1)(h2:aq X z b g1 r2 g2)(p1:pk r1 g2=some d1)(p2:pk r2 g2=some d2)(ho:jj X z (compareOp op) d1 d2 (.dat (.bl c)))(hm:behindInMarks op b=false):bV X z (.Compare a [op] [b] pos) g c g2:=by
 obtain⟨t1,q1,k1⟩:=h1;obtain⟨t2,q2,k2⟩:=h2;obtain⟨rr,o,ko⟩:=ho;exact⟨_,EY o q1 q2 hm,λσ As M H Q s k=>k1 σ As M H _ s λv1 H1 aR M1 s1 dc R1=>k2 σ aR M1 H1 _ s1 λv2 H2 bf M2 s2 aM R2=>
  ko g2 σ bf M2 H2 v1 v2 _ s2 (s2.pk aM R1 p1) (s2.pk (ao.refl _ _) R2 p2) λv H' au M' s' st' R'=>⟨c,dZ R',k H' au M' s' (dc.trans (aM.trans st'))⟩⟩
theorem Li(h:bV X z a g c g'):bV X z (.UnaryOp .Not a pos) g (!c) g':=by obtain⟨t,q,k⟩:=h;exact⟨_,J7 q,λσ As M H Q s kk=>k σ As M H _ s λH' au M' s' st=>kk H' au M' s' st⟩
def jR(X:Cx)(z:Z)(e:Expr)(g:G)(b:Bool)(g':G):Prop:=
 ∃t,PW X e t/\∀σ As M H (Q:Bool->Hp->Prop),S z g σ As M H->(∀H' au M',S z g' σ au M' H'->ao M H M' H'->Q b H')->t σ H Q
theorem jR.tr(h:jR X z e g c g'):bV X z e g c g':=let ⟨t,q,k⟩:=h;⟨t,q.pt,k⟩
theorem FQ(h:bV X z a g c g'):jR X z (.BoolOp .And [a] pos) g c g':=let ⟨t,q,k⟩:=h;⟨t,pw_and1 q,k⟩
theorem Lj(h:bV X z a g c g'):jR X z (.BoolOp .Or [a] pos) g c g':=let ⟨t,q,k⟩:=h;⟨t,pw_or1 q,k⟩
def Zj:TT:=λ_ _ _=>False
theorem pw_never:PW X e Zj:=λ_ _ _ _ _ _ _ h=>h.elim
theorem iH:PE X e (λ_ _ _=>False):=λ_ _ _ _ _ _ h=>h.elim
theorem FT{rest:List Expr}(h:bV X z a g false g1):jR X z (.BoolOp .And (a::b::rest) pos) g false g1:=by obtain⟨t,q,k⟩:=h;exact⟨_,pw_and q pw_never,λσ As M H Q s kk=>k σ As M H _ s λH' au M' s' st=>qR (kk H' au M' s' st)⟩
theorem FW{rest:List Expr}{c:Bool}(h:bV X z a g true g1)(h2:jR X z (.BoolOp .And (b::rest) pos) g1 c g2):jR X z (.BoolOp .And (a::b::rest) pos) g c g2:=by obtain⟨t,q,k⟩:=h;obtain⟨t2,q2,k2⟩:=h2;exact⟨_,pw_and q q2,λσ As M H Q s kk=>k σ As M H _ s λH' au M' s' st=>kK (k2 σ au M' H' Q s' λH2 bf M2 s2 aM=>kk H2 bf M2 s2 (st.trans aM))⟩
theorem Lk{rest:List Expr}(h:bV X z a g true g1):jR X z (.BoolOp .Or (a::b::rest) pos) g true g1:=by obtain⟨t,q,k⟩:=h;exact⟨_,pw_or q pw_never,λσ As M H Q s kk=>k σ As M H _ s λH' au M' s' st=>kK (kk H' au M' s' st)⟩
theorem Ln{rest:List Expr}{c:Bool}(h:bV X z a g false g1)(h2:jR X z (.BoolOp .Or (b::rest) pos) g1 c g2):jR X z (.BoolOp .Or (a::b::rest) pos) g c g2:=by obtain⟨t,q,k⟩:=h;obtain⟨t2,q2,k2⟩:=h2;exact⟨_,pw_or q q2,λσ As M H Q s kk=>k σ As M H _ s λH' au M' s' st=>qR (k2 σ au M' H' Q s' λH2 bf M2 s2 aM=>kk H2 bf M2 s2 (st.trans aM))⟩
theorem zQ(h:aq X z a g r g'):aq X z (.BoolOp op [a] pos) g r g':=let ⟨t,q,k⟩:=h;⟨t,J8 q,k⟩
theorem FZ{rest:List Expr}(h:aq X z a g (.dat (.bl false)) g1):aq X z (.BoolOp .And (a::b::rest) pos) g (.dat (.bl false)) g1:=by obtain⟨t,q,k⟩:=h;exact⟨_,zc q iH,λσ As M H Q s kk=>k σ As M H _ s λv H' au M' s' st R=>⟨false,dZ R,qR (kk _ H' au M' s' st (.bl false))⟩⟩
theorem Ga{rest:List Expr}(h:aq X z a g (.dat (.bl true)) g1)(h2:aq X z (.BoolOp .And (b::rest) pos) g1 r g2):aq X z (.BoolOp .And (a::b::rest) pos) g r g2:=by obtain⟨t,q,k⟩:=h;obtain⟨t2,q2,k2⟩:=h2;exact⟨_,zc q q2,λσ As M H Q s kk=>k σ As M H _ s λv H' au M' s' st R=>⟨true,dZ R,kK (k2 σ au M' H' Q s' λv2 H2 bf M2 s2 aM=>kk v2 H2 bf M2 s2 (st.trans aM))⟩⟩
theorem Lp{rest:List Expr}(h:aq X z a g (.dat (.bl true)) g1):aq X z (.BoolOp .Or (a::b::rest) pos) g (.dat (.bl true)) g1:=by obtain⟨t,q,k⟩:=h;exact⟨_,Jl q iH,λσ As M H Q s kk=>k σ As M H _ s λv H' au M' s' st R=>⟨true,dZ R,kK (kk _ H' au M' s' st (.bl true))⟩⟩
theorem Lq{rest:List Expr}(h:aq X z a g (.dat (.bl false)) g1)(h2:aq X z (.BoolOp .Or (b::rest) pos) g1 r g2):aq X z (.BoolOp .Or (a::b::rest) pos) g r g2:=by obtain⟨t,q,k⟩:=h;obtain⟨t2,q2,k2⟩:=h2;exact⟨_,Jl q q2,λσ As M H Q s kk=>k σ As M H _ s λv H' au M' s' st R=>⟨false,dZ R,qR (k2 σ au M' H' Q s' λv2 H2 bf M2 s2 aM=>kk v2 H2 bf M2 s2 (st.trans aM))⟩⟩
theorem Lr(h:aq X z a g (.dat (.bl c)) g1):aq X z (.UnaryOp .Not a pos) g (.dat (.bl (!c))) g1:=by obtain⟨t,q,k⟩:=h;exact⟨_,J9 q,λσ As M H Q s kk=>k σ As M H _ s λv H' au M' s' st R=>⟨c,dZ R,kk _ H' au M' s' st (.bl _)⟩⟩
theorem Ls(h:bV X z c g true g1)(h2:aq X z a g1 r g2):aq X z (.IfExp c a b pos) g r g2:=by obtain⟨t,q,k⟩:=h;obtain⟨t2,q2,k2⟩:=h2;exact⟨_,qJ q q2 iH,λσ As M H Q s kk=>k σ As M H _ s λH' au M' s' st=>kK (k2 σ au M' H' Q s' λv2 H2 bf M2 s2 aM=>kk v2 H2 bf M2 s2 (st.trans aM))⟩
theorem Lv(h:bV X z c g false g1)(h2:aq X z b g1 r g2):aq X z (.IfExp c a b pos) g r g2:=by obtain⟨t,q,k⟩:=h;obtain⟨t2,q2,k2⟩:=h2;exact⟨_,qJ q iH q2,λσ As M H Q s kk=>k σ As M H _ s λH' au M' s' st=>qR (k2 σ au M' H' Q s' λv2 H2 bf M2 s2 aM=>kk v2 H2 bf M2 s2 (st.trans aM))⟩
inductive gU(z:Z)(σ:Sg)(M:List Addr)(H:Hp):List R->List V->Prop
 |nil:gU z σ M H [] []
 |dat {d:D}{v:V}{rs:List R}{vs:List V}:Rep z.K M H d v->gU z σ M H rs vs->gU z σ M H (.dat d::rs) (v::vs)
 |var {i:Nat}{v:V}{rs:List R}{vs:List V}:σ[i]?=some (some v)->gU z σ M H rs vs->gU z σ M H (.var i::rs) (v::vs)
def bW(X:Cx)(z:Z)(es:List Expr)(g:G)(rs:List R)(g':G):Prop:=
 ∃t,PA X es t/\∀σ As M H (Q:List V->Hp->Prop),S z g σ As M H->(∀vs H' au M',S z g' σ au M' H'->ao M H M' H'->gU z σ M' H' rs vs->Q vs H')->t σ H Q
theorem dO:bW X z [] g [] g:=⟨_,oV,λσ As M H Q s k=>k [] H As M s (ao.refl _ _) .nil⟩
theorem cQ(h:aq X z e g (.dat d) g1)(h2:bW X z es g1 rs g2)(hs:starEach (e::es) X.env=(false,eval e X.env)::starEach es X.env):bW X z (e::es) g (.dat d::rs) g2:=by obtain⟨t,q,k⟩:=h;obtain⟨t2,q2,k2⟩:=h2;exact⟨_,eK q q2 hs,λσ As M H Q s kk=>k σ As M H _ s λv H' au M' s' st R=>k2 σ au M' H' _ s' λvs H2 bf M2 s2 aM R2=>kk _ H2 bf M2 s2 (st.trans aM) (.dat (Rep.stay aM R) R2)⟩
theorem zR(h:aq X z e g (.var i) g1)(h2:bW X z es g1 rs g2)(hs:starEach (e::es) X.env=(false,eval e X.env)::starEach es X.env):bW X z (e::es) g (.var i::rs) g2:=by obtain⟨t,q,k⟩:=h;obtain⟨t2,q2,k2⟩:=h2;exact⟨_,eK q q2 hs,λσ As M H Q s kk=>k σ As M H _ s λv H' au M' s' st ⟨_,_,R⟩=>k2 σ au M' H' _ s' λvs H2 bf M2 s2 aM R2=>kk _ H2 bf M2 s2 (st.trans aM) (.var R R2)⟩
inductive Gb(K:Frag)(M:List Addr)(H:Hp):List D->List V->Prop
 |nil:Gb K M H [] []
 |cons {d:D}{v:V}{ds:List D}{vs:List V}:Pk K M H d v->Gb K M H ds vs->Gb K M H (d::ds) (v::vs)
def qU:List R->G->Option (List D)
 | [],_=>some []
 |r::rs,g=>match pk r g,qU rs g with
  |some d,some ds=>some (d::ds)
  |_,_=>none
theorem S.qU(s:S z g σ As M H)(q:gU z σ M H rs vs)(e:qU rs g=some ds):Gb z.K M H ds vs:=by
 induction q generalizing ds with
 |nil=>cases e;exact .nil
 |@dat d v rs vs r q ih=>
  unfold Ev.qU at e;cases e2:Ev.qU rs g with
  |none=>rw[e2]at e;cases e
  |some ds=>rw[e2]at e;cases e;exact .cons (.of r) (ih e2)
 |@var i v rs vs r q ih=>
  unfold Ev.qU at e;cases e1:Ev.pk (.var i) g with
  |none=>rw[e1]at e;cases e
  |some d=>
   cases e2:Ev.qU rs g with
   |none=>rw[e1,e2]at e;cases e
   |some ds=>
    rw[e1,e2]at e;cases e;unfold Ev.pk at e1;dsimp only at e1;split at e1
    . rename_i l hg;cases e1;obtain⟨a,xs,h1,h2,h3,h4⟩:=s.sl.at hg;rw[r]at h1;injection h1 with h1;injection h1 with h1;subst h1;exact .cons (.lst h3 h4) (ih e2)
    . rename_i l hg;cases e1;obtain⟨w,h1,h2⟩:=s.sl.vH hg;rw[r]at h1;injection h1 with h1;injection h1 with h1;exact .cons (.of (h1▸h2)) (ih e2)
    . cases e1
noncomputable def pF:List R->Option (List D)
 | []=>some []
 |.dat d::rs=>match pF rs with |some ds=>some (d::ds) |none=>none
 |_::_=>none
theorem pG(q:gU z σ M H rs vs)(e:pF rs=some ds):aC z.K M H ds vs:=by
 induction q generalizing ds with
 |nil=>cases e;exact .nil
 |@dat d v rs vs r q ih=>
  unfold pF at e;cases e2:pF rs with
  |none=>rw[e2]at e;cases e
  |some ds=>rw[e2]at e;cases e;exact .cons r (ih e2)
 |var _ _ _=>cases e
theorem jG(h:n<=16777216):n<=sizeLine:=by rw[oC];exact h
theorem Lw{x1}(h:bW X z es g rs g')(hd:pF rs=some ds)(hl:ds.length<=16777216):aq X z (.Tuple es x1 pos) g (.dat (.tup ds)) g':=by
 obtain⟨t,q,k⟩:=h;refine⟨_,tT q,λσ As M H Q s kk=>k σ As M H _ s λvs H' au M' s' st R=>?_⟩
 have rr:=pG R hd;refine⟨by rw[<- rr.length];exact jG hl,λp hp=>kk _ _ au M' (s'.laid hp) (st.trans (ao.laid hp)) (.tup (.inl ⟨s'.fresh hp,.inl aD⟩) (rr.stay (ao.laid hp)))⟩
theorem Lx(h:bW X z es g rs g')(hd:pF rs=some ds)(hl:ds.length<=16777216):aq X z (.List es pos) g (.new ds) g':=by
 obtain⟨t,q,k⟩:=h;refine⟨_,KC q,λσ As M H Q s kk=>k σ As M H _ s λvs H' au M' s' st R=>?_⟩
 have rr:=pG R hd;refine⟨by rw[<- rr.length];exact jG hl,λp hp=>kk _ _ au (p::M') (s'.aK hp) (st.trans (ao.aK hp)) ⟨p,vs,rfl,dC,λhA=>s'.fresh hp (s'.sub p hA),s'.bQ hp,aD,rr.stay (ao.aK hp)⟩⟩
def CallD(X:Cx)(z:Z)(f:Value)(ds:List D)(res:R):Prop:=
 ∃r,dz X f r/\∀g σ As M H vs Q,S z g σ As M H->Gb z.K M H ds vs->Kn z g σ M H res Q->r vs H Q
theorem cR{x:Str}{id:String}{p:Pos}{es:List Expr}{rs:List R}{ds:List D}(h:bW X z (e::es) g rs g')(hp:qU rs g'=some ds)(hc:CallD X z (.builtin id) ds r)(hg:Gl X x)(hm:X.mg x=none)(hv:bootBuiltins x=some (.builtin id))(hn:x≠ "__name__")(wK:(x==("__debug__":Str))=false)
  (he:starEach (e::es) X.env=(false,eval e X.env)::starEach es X.env) (iA:(backTo pos (starEach es X.env)).any (·.1)=false):aq X z (.Call (.Name x p) (e::es) [] pos) g r g':=by
 obtain⟨t,q,k⟩:=h;obtain⟨rr,c,kc⟩:=hc;exact⟨_,kG c hg hm hv q hn wK he iA,λσ As M H Q s kk=>k σ As M H _ s λvs H' au M' s' st R=>kc g' σ au M' H' vs Q s' (s'.qU R hp) λv H2 bf M2 s2 aM R2=>kk v H2 bf M2 s2 (st.trans aM) R2⟩
theorem jk(h:bW X z (e::es) g rs g')(hp:qU rs g'=some ds)(hc:CallD X z (.type T) ds r)(hg:Gl X x)(hm:X.mg x=none)(hv:bootBuiltins x=some (.type T))(hn:x≠ "__name__")(wK:(x==("__debug__":Str))=false)
  (he:starEach (e::es) X.env=(false,eval e X.env)::starEach es X.env) (iA:(backTo pos (starEach es X.env)).any (·.1)=false):aq X z (.Call (.Name x p) (e::es) [] pos) g r g':=by
 obtain⟨t,q,k⟩:=h;obtain⟨rr,c,kc⟩:=hc;exact⟨_,xm c hg hm hv q hn wK he iA,λσ As M H Q s kk=>k σ As M H _ s λvs H' au M' s' st R=>kc g' σ au M' H' vs Q s' (s'.qU R hp) λv H2 bf M2 s2 aM R2=>kk v H2 bf M2 s2 (st.trans aM) R2⟩
end
mutual
noncomputable def bO:D->D->Bool
 |.non,.non=>true
 |.bl a,.bl b=>a==b
 |.bl a,.int j=>(if a then 1 else 0)==j
 |.int i,.bl b=>i==(if b then 1 else 0)
 |.int i,.int j=>i==j
 |.str x,.str y=>x==y
 |.tup l,.tup m=>bZ l m
 |.lst l,.lst m=>bZ l m
 |.lst l,.fix m=>bZ l m
 |.fix l,.lst m=>bZ l m
 |.fix l,.fix m=>bZ l m
 |_,_=>false
noncomputable def bZ:List D->List D->Bool
 | [],[]=>true
 |a::l,b::m=>bO a b&&bZ l m
 |_,_=>false
end
mutual
noncomputable def dep:D->Nat
 |.tup l=>deps l+1
 |.lst l=>deps l+1
 |.fix l=>deps l+1
 |_=>0
noncomputable def deps:List D->Nat
 | []=>0
 |d::l=>max (dep d) (deps l)
end
mutual
noncomputable def jc:D->Bool
 |.tup l=>iI l
 |.lst l=>iI l
 |.fix l=>iI l
 |.emp=>false
 |.vG _=>false
 |.qB ..=>false
 |_=>true
noncomputable def iI:List D->Bool
 | []=>true
 |d::l=>jc d&&iI l
end
mutual
inductive Dv(h:Heap):D->Value->Prop
 |non:Dv h .non .none
 |bl (b:Bool):Dv h (.bl b) (.bool b)
 |int (i:Int) (t:Tok):Dv h (.int i) (.int i t)
 |str (x:Str) (t:Tok):Dv h (.str x) (.str x t)
 |tup {l:List D}{a:Addr}{us:List Value}:IsTup h a us.toArray->j4 h l us->Dv h (.tup l) (.ref a)
 |lst {l:List D}{a:Addr}{us:List Value}:h.IsList a us.toArray->j4 h l us->Dv h (.lst l) (.ref a)
 |fix {l:List D}{a:Addr}{us:List Value}:h.IsList a us.toArray->j4 h l us->Dv h (.fix l) (.ref a)
inductive j4(h:Heap):List D->List Value->Prop
 |nil:j4 h [] []
 |cons {d:D}{ds:List D}{u:Value}{us:List Value}:Dv h d u->j4 h ds us->j4 h (d::ds) (u::us)
end
section
theorem Rep.Zm(I:Inv X ah σ H s)(q:Rep X.K M H d v):∀u,RelV v u->jc d=true->Dv s.heap d u:=by
 refine Rep.rec (motive_1:=λd v _=>∀u,RelV v u->jc d=true->Dv s.heap d u) (motive_2:=λds vs _=>∀us,Vals vs us->iI ds=true->j4 s.heap ds us) ?_ ?_ ?_ ?_ ?_ ?_ ?_ ?_ ?_ ?_ ?_ ?_ q
 . intro u r _;cases r;exact .non
 . intro b u r _;cases r;exact .bl b
 . intro i u r _;obtain⟨t,rfl⟩:=r;exact .int i t
 . intro x u r _;obtain⟨t,rfl⟩:=r;exact .str x t
 . intro l a xs h _ ih u r p;cases r;obtain⟨its,rv,ht,hz⟩:=I.tuple h.sq;exact .tup ht (ih _ rv p)
 . intro l a xs h _ ih u r p;cases r;obtain⟨its,rv,ht,hz⟩:=I.list (bU.of h.2);exact .lst ht.isList (ih _ rv p)
 . intro l a xs h _ ih u r p;cases r;obtain⟨its,rv,ht,hz⟩:=I.list h.sq;exact .fix ht.isList (ih _ rv p)
 . intro a _ _ u _ p;exact Bool.noConfusion (show false=true from p)
 . intro C a _ _ _ u _ p;exact Bool.noConfusion (show false=true from p)
 . intro ks ds a vs _ _ _ _ _ u _ p;exact Bool.noConfusion (show false=true from p)
 . intro us r _;cases r;exact .nil
 .
  intro d ds x xs _ _ i1 i2 us r p;cases r with
  |cons r1 r2=>have p:(jc d&&iI ds)=true:=p;rw[eJ]at p;exact .cons (i1 _ r1 p.1) (i2 _ r2 p.2)
theorem Rep.dv(I:Inv X ah σ H s)(q:Rep X.K M H d v)(r:RelV v u)(p:jc d=true):Dv s.heap d u:=q.Zm I u r p
theorem aC.dv(I:Inv X ah σ H s)(q:aC X.K M H ds vs)(r:Vals vs us)(p:iI ds=true):j4 s.heap ds us:=by
 induction ds generalizing vs us with
 |nil=>cases q;cases r;exact .nil
 |cons d ds ih=>cases q with |cons q1 q2=>cases r with |cons r1 r2=>have p:(jc d&&iI ds)=true:=p;rw[eJ]at p;exact .cons (q1.dv I r1 p.1) (ih q2 r2 p.2)
theorem Pk.dv(I:Inv X ah σ H s)(h:Pk X.K M H d v)(r:RelV v u)(p:jc d=true):Dv s.heap d u:=by
 cases h with
 |of q=>exact q.dv I r p
 |lst h q=>cases r;obtain⟨its,rv,ht,hz⟩:=I.list (bU.of h);exact .lst ht.isList (aC.dv I q rv (by simpa [jc]using p))
end
theorem j4.length(q:j4 h l us):l.length=us.length:=by
 induction l generalizing us with
 |nil=>cases q;rfl
 |cons d l ih=>cases q with |cons a b=>exact congrArg (· + 1) (ih b)
theorem nJ{h:Heap}{a:Addr}{us ws:List Value}(x:IsTup h a us.toArray)(y:IsTup h a ws.toArray):us=ws:=by obtain⟨o,e,_,n,d⟩:=x;obtain⟨o',e',_,n',d'⟩:=y;rw[e]at e';cases e';rw[d]at d';injection d' with d1 _;simpa using congrArg Array.toList d1
theorem bz{h:Heap}{a:Addr}{us ws:List Value}(x:h.IsList a us.toArray)(y:h.IsList a ws.toArray):us=ws:=by obtain⟨o,e,_,n,d⟩:=x;obtain⟨o',e',_,n',d'⟩:=y;rw[e]at e';cases e';rw[d]at d';injection d' with d1 _;simpa using congrArg Array.toList d1
theorem cC(x:IsTup h a us)(y:h.IsList a ws):False:=by obtain⟨o,e,c,_⟩:=x;obtain⟨o',e',c',_⟩:=y;rw[e]at e';cases e';rw[c]at c';injection c' with c';exact absurd c' ⋯
theorem zS{h:Heap}{d1:D}{u:Value}(q:Dv h d1 u):∀d2,Dv h d2 u->bO d1 d2=true:=by
 refine Dv.rec (motive_1:=λd1 u _=>∀d2,Dv h d2 u->bO d1 d2=true) (motive_2:=λl us _=>∀m,j4 h m us->bZ l m=true) ?_ ?_ ?_ ?_ ?_ ?_ ?_ ?_ ?_ q
 . intro d2 q;cases q;rfl
 . intro b d2 q;cases q;exact t6 b
 . intro i t d2 q;cases q;exact t6 i
 . intro x t d2 q;cases q;exact t6 x
 .
  intro l a us x _ ih d2 q;cases q with
  |tup y q'=>cases nJ x y;exact ih _ q'
  |lst y _=>exact (cC x y).elim
  |fix y _=>exact (cC x y).elim
 .
  intro l a us x _ ih d2 q;cases q with
  |tup y _=>exact (cC y x).elim
  |lst y q'=>cases bz x y;exact ih _ q'
  |fix y q'=>cases bz x y;exact ih _ q'
 .
  intro l a us x _ ih d2 q;cases q with
  |tup y _=>exact (cC y x).elim
  |lst y q'=>cases bz x y;exact ih _ q'
  |fix y q'=>cases bz x y;exact ih _ q'
 . intro m q;cases q;rfl
 .
  intro d ds u us _ _ i1 i2 m q;cases q with
  |@cons d' m _ _ b q'=>show (bO d d'&&bZ ds m)=true;rw[i1 _ b,i2 _ q'];rfl
theorem Gd(q:Dv h d1 u)(q':Dv h d2 u):bO d1 d2=true:=zS q d2 q'
def Js(l m:List D)(j:Nat):Bool:=match l[j]?,m[j]? with |some a,some b=>bO a b |_,_=>false
theorem kP(l m:List D)(h:l.length=m.length):(List.range l.length).all (Js l m)=bZ l m:=by
 induction l generalizing m with
 |nil=>cases m with
  |nil=>rfl
  |cons _ _=>cases h
 |cons a l ih=>cases m with
  |nil=>cases h
  |cons b m=>rw[i6,List.range_succ_eq_map,CC,List.all_map];have e:(Js (a::l) (b::m) ∘ Nat.succ)=Js l m:=rfl;rw[e,ih m (Bz h)];rfl
theorem kQ(l m:List D)(h:l.length≠m.length):bZ l m=false:=by
 induction l generalizing m with
 |nil=>cases m with
  |nil=>exact absurd rfl h
  |cons _ _=>rfl
 |cons a l ih=>cases m with
  |nil=>rfl
  |cons b m=>show (bO a b&&bZ l m)=false;rw[ih m (λe=>h (congrArg (· + 1) e)),AS]
theorem qV(l m:List D):((List.range (min l.length m.length)).all (Js l m)&&l.length==m.length)=bZ l m:=by
 by_cases h:l.length=m.length
 . rw[h,Nat.min_self,<- h,kP l m h];simp
 .
  rw[kQ l m h];have:(l.length==m.length)=false:=by simpa using h
  rw[this,AS]
theorem kT{l:List D}{j:Nat}{d:D}(e:l[j]?=some d):dep d<=deps l:=by
 induction l generalizing j with
 |nil=>exact nomatch (show none=some d from e)
 |cons d' l ih=>cases j with
  |zero=>cases (show some d'=some d from e);exact Nat.le_max_left _ _
  |succ j=>exact l5 (ih (show l[j]?=some d from e)) (Nat.le_max_right _ _)
theorem j4.get{h:Heap}{l:List D}{us:List Value}{j:Nat}{u:Value}(q:j4 h l us)(e:us[j]?=some u):∃d,l[j]?=some d/\Dv h d u:=by
 induction l generalizing us j with
 |nil=>cases q;exact nomatch (show none=some u from e)
 |cons d' l ih=>cases q with |@cons _ _ u' us a b=>cases j with
  |zero=>cases (show some u'=some u from e);exact⟨_,rfl,a⟩
  |succ j=>obtain⟨d,h⟩:=ih (j:=j) b e;exact⟨d,h⟩
theorem in1_units(A:Around):A.in1.units=A.units+1:=rfl
section
theorem iJ(hl:s.heap.IsList l us.toArray)(hb:s.heap.IsList b ws.toArray)(q:j4 s.heap ls us)(q':j4 s.heap ms ws)(hu:A.units<cLine)
  (he:∀(j:Nat) d1 d2 u1 u2,ls[j]?=some d1->Dv s.heap d1 u1->Dv s.heap d2 u2->SeqAt.EqAt A.in1 s u1 u2 (bO d1 d2)):SeqAt.RcAt A s (.ref l) (.ref b) (bZ ls ms):=by
 have h1:=q.length;have h2:=q'.length;by_cases h:ls.length=ms.length
 .
  rw[<- kP ls ms h];have e:us.toArray.size=ls.length:=by rw[dA,h1]
  rw[<- e];refine SeqAt.RcAt.lists hl hb (by rw[dA,dA];lia) hu λj g1 g2=>?_
  rw[dA]at g1 g2;obtain⟨d1,e1,v1⟩:=q.get (j:=j) (u:=us[j]) (by simp[g1])
  obtain⟨d2,e2,v2⟩:=q'.get (j:=j) (u:=ws[j]) (by simp[g2])
  have:=he j d1 d2 us[j] ws[j] e1 v1 v2;simpa [Js,e1,e2]using this
 . rw[kQ ls ms h];refine SeqAt.RcAt.lists_lengths hl hb ?_ hu;rw[dA,dA];simp only[bne_iff_ne];lia
theorem xA(hl:IsTup s.heap l us.toArray)(hb:IsTup s.heap b ws.toArray)(q:j4 s.heap ls us)(q':j4 s.heap ms ws)(hu:A.units<cLine)
  (he:∀(j:Nat) d1 d2 u1 u2,ls[j]?=some d1->Dv s.heap d1 u1->Dv s.heap d2 u2->SeqAt.EqAt A.in1 s u1 u2 (bO d1 d2)):SeqAt.RcAt A s (.ref l) (.ref b) (bZ ls ms):=by
 have h1:=q.length;have h2:=q'.length;have e:us.toArray.size=ls.length:=by rw[dA,h1]
 have e':ws.toArray.size=ms.length:=by rw[dA,h2]
 rw[<- qV,<- e,<- e'];refine SeqAt.RcAt.tuples hl hb hu λj g1 g2=>?_
 rw[dA]at g1 g2;obtain⟨d1,e1,v1⟩:=q.get (j:=j) (u:=us[j]) (by simp[g1])
 obtain⟨d2,e2,v2⟩:=q'.get (j:=j) (u:=ws[j]) (by simp[g2])
 have:=he j d1 d2 us[j] ws[j] e1 v1 v2;simpa [Js,e1,e2]using this
theorem fE(x:Dv s.heap d1 (.ref l))(y:Dv s.heap d2 (.ref b))(h:SeqAt.RcAt A s (.ref l) (.ref b) (bO d1 d2)):SeqAt.EqAt A s (.ref l) (.ref b) (bO d1 d2):=by
 by_cases e:l=b
 . subst e;rw[Gd x y];exact .same _
 . exact .of_refs e h
end
theorem zT{s:Shared}:∀(n:Nat) {d1 d2:D}{u1 u2:Value}{A:Around},dep d1<=n->Dv s.heap d1 u1->Dv s.heap d2 u2->A.units+n<cLine->SeqAt.EqAt A s u1 u2 (bO d1 d2)/\SeqAt.RcAt A s u1 u2 (bO d1 d2):=by
 intro n
 induction n with
 |zero=>
  intro d1 d2 u1 u2 A hn x y hu;have aI:A.units<cLine:=by lia
  cases x with
  |tup h q=>exact absurd hn (Cn _)
  |lst h q=>exact absurd hn (Cn _)
  |fix h q=>exact absurd hn (Cn _)
  |non=>
   cases y with
   |non=>exact⟨.same _,.none_none⟩
   |bl c'=>exact⟨.none_bool c',.none_bool c'⟩
   |int c' t'=>exact⟨.none_int c' t',.none_int c' t'⟩
   |str c' t'=>exact⟨.none_str c' t',.none_str c' t'⟩
   |tup h' q'=>exact⟨.none_tuple h' aI,.none_tuple h' aI⟩
   |lst h' q'=>exact⟨.none_list h' aI,.none_list h' aI⟩
   |fix h' q'=>exact⟨.none_list h' aI,.none_list h' aI⟩
  |bl c=>
   cases y with
   |non=>exact⟨.bool_none c,.bool_none c⟩
   |bl c'=>exact⟨.bool_bool c c',.bool_bool c c'⟩
   |int c' t'=>exact⟨.bool_int c c' t',.bool_int c c' t'⟩
   |str c' t'=>exact⟨.bool_str c c' t',.bool_str c c' t'⟩
   |tup h' q'=>exact⟨.bool_tuple c h' aI,.bool_tuple c h' aI⟩
   |lst h' q'=>exact⟨.bool_list c h' aI,.bool_list c h' aI⟩
   |fix h' q'=>exact⟨.bool_list c h' aI,.bool_list c h' aI⟩
  |int c t=>
   cases y with
   |non=>exact⟨.int_none c t,.int_none c t⟩
   |bl c'=>exact⟨.int_bool c t c',.int_bool c t c'⟩
   |int c' t'=>exact⟨.int_int c t c' t',.int_int c t c' t'⟩
   |str c' t'=>exact⟨.int_str c t c' t',.int_str c t c' t'⟩
   |tup h' q'=>exact⟨.int_tuple c t h' aI,.int_tuple c t h' aI⟩
   |lst h' q'=>exact⟨.int_list c t h' aI,.int_list c t h' aI⟩
   |fix h' q'=>exact⟨.int_list c t h' aI,.int_list c t h' aI⟩
  |str c t=>
   cases y with
   |non=>exact⟨.str_none c t,.str_none c t⟩
   |bl c'=>exact⟨.str_bool c t c',.str_bool c t c'⟩
   |int c' t'=>exact⟨.str_int c t c' t',.str_int c t c' t'⟩
   |str c' t'=>exact⟨.str_str c t c' t',.str_str c t c' t'⟩
   |tup h' q'=>exact⟨.str_tuple c t h' aI,.str_tuple c t h' aI⟩
   |lst h' q'=>exact⟨.str_list c t h' aI,.str_list c t h' aI⟩
   |fix h' q'=>exact⟨.str_list c t h' aI,.str_list c t h' aI⟩
 |succ n ih=>
  intro d1 d2 u1 u2 A hn x y hu;have aI:A.units<cLine:=by lia
  have el:∀{l:List D},deps l<=n->∀(j:Nat) d1 d2 u1 u2,l[j]?=some d1->Dv s.heap d1 u1->Dv s.heap d2 u2->SeqAt.EqAt A.in1 s u1 u2 (bO d1 d2):=λhl j d1 d2 u1 u2 e v1 v2=>
   (ih (l5 (kT e) hl) v1 v2 (by rw[in1_units];lia)).1
  cases x with
  |@tup l0 a0 XS h q=>
   have hn':deps l0<=n:=BS hn;have x:=Dv.tup h q;cases y with
   |tup h' q'=>have r:=xA h h' q q' aI (el hn');exact⟨fE x (.tup h' q') r,r⟩
   |lst h' q'=>exact⟨.tuple_list h h' aI,.tuple_list h h' aI⟩
   |fix h' q'=>exact⟨.tuple_list h h' aI,.tuple_list h h' aI⟩
   |non=>exact⟨.tuple_none h aI,.tuple_none h aI⟩
   |bl b=>exact⟨.tuple_bool b h aI,.tuple_bool b h aI⟩
   |int b t=>exact⟨.tuple_int b t h aI,.tuple_int b t h aI⟩
   |str b t=>exact⟨.tuple_str b t h aI,.tuple_str b t h aI⟩
  |@lst l0 a0 XS h q=>
   have hn':deps l0<=n:=BS hn;have x:=Dv.lst h q;cases y with
   |tup h' q'=>exact⟨.list_tuple h h' aI,.list_tuple h h' aI⟩
   |lst h' q'=>have r:=iJ h h' q q' aI (el hn');exact⟨fE x (.lst h' q') r,r⟩
   |fix h' q'=>have r:=iJ h h' q q' aI (el hn');exact⟨fE x (.fix h' q') r,r⟩
   |non=>exact⟨.list_none h aI,.list_none h aI⟩
   |bl b=>exact⟨.list_bool b h aI,.list_bool b h aI⟩
   |int b t=>exact⟨.list_int b t h aI,.list_int b t h aI⟩
   |str b t=>exact⟨.list_str b t h aI,.list_str b t h aI⟩
  |@fix l0 a0 XS h q=>
   have hn':deps l0<=n:=BS hn;have x:=Dv.fix h q;cases y with
   |tup h' q'=>exact⟨.list_tuple h h' aI,.list_tuple h h' aI⟩
   |lst h' q'=>have r:=iJ h h' q q' aI (el hn');exact⟨fE x (.lst h' q') r,r⟩
   |fix h' q'=>have r:=iJ h h' q q' aI (el hn');exact⟨fE x (.fix h' q') r,r⟩
   |non=>exact⟨.list_none h aI,.list_none h aI⟩
   |bl b=>exact⟨.list_bool b h aI,.list_bool b h aI⟩
   |int b t=>exact⟨.list_int b t h aI,.list_int b t h aI⟩
   |str b t=>exact⟨.list_str b t h aI,.list_str b t h aI⟩
  |non=>
   cases y with
   |non=>exact⟨.same _,.none_none⟩
   |bl c'=>exact⟨.none_bool c',.none_bool c'⟩
   |int c' t'=>exact⟨.none_int c' t',.none_int c' t'⟩
   |str c' t'=>exact⟨.none_str c' t',.none_str c' t'⟩
   |tup h' q'=>exact⟨.none_tuple h' aI,.none_tuple h' aI⟩
   |lst h' q'=>exact⟨.none_list h' aI,.none_list h' aI⟩
   |fix h' q'=>exact⟨.none_list h' aI,.none_list h' aI⟩
  |bl c=>
   cases y with
   |non=>exact⟨.bool_none c,.bool_none c⟩
   |bl c'=>exact⟨.bool_bool c c',.bool_bool c c'⟩
   |int c' t'=>exact⟨.bool_int c c' t',.bool_int c c' t'⟩
   |str c' t'=>exact⟨.bool_str c c' t',.bool_str c c' t'⟩
   |tup h' q'=>exact⟨.bool_tuple c h' aI,.bool_tuple c h' aI⟩
   |lst h' q'=>exact⟨.bool_list c h' aI,.bool_list c h' aI⟩
   |fix h' q'=>exact⟨.bool_list c h' aI,.bool_list c h' aI⟩
  |int c t=>
   cases y with
   |non=>exact⟨.int_none c t,.int_none c t⟩
   |bl c'=>exact⟨.int_bool c t c',.int_bool c t c'⟩
   |int c' t'=>exact⟨.int_int c t c' t',.int_int c t c' t'⟩
   |str c' t'=>exact⟨.int_str c t c' t',.int_str c t c' t'⟩
   |tup h' q'=>exact⟨.int_tuple c t h' aI,.int_tuple c t h' aI⟩
   |lst h' q'=>exact⟨.int_list c t h' aI,.int_list c t h' aI⟩
   |fix h' q'=>exact⟨.int_list c t h' aI,.int_list c t h' aI⟩
  |str c t=>
   cases y with
   |non=>exact⟨.str_none c t,.str_none c t⟩
   |bl c'=>exact⟨.str_bool c t c',.str_bool c t c'⟩
   |int c' t'=>exact⟨.str_int c t c' t',.str_int c t c' t'⟩
   |str c' t'=>exact⟨.str_str c t c' t',.str_str c t c' t'⟩
   |tup h' q'=>exact⟨.str_tuple c t h' aI,.str_tuple c t h' aI⟩
   |lst h' q'=>exact⟨.str_list c t h' aI,.str_list c t h' aI⟩
   |fix h' q'=>exact⟨.str_list c t h' aI,.str_list c t h' aI⟩
section
variable{K:Frag}
theorem Pk.int{i:Int}(h:Pk K M H (.int i) v):v=.int i:=by cases h with |of r=>cases r;rfl
theorem Pk.bl(h:Pk K M H (.bl i) v):v=.bl i:=by cases h with |of r=>cases r;rfl
theorem Pk.str(h:Pk K M H (.str i) v):v=.str i:=by cases h with |of r=>cases r;rfl
theorem Pk.non(h:Pk K M H .non v):v=.non:=by cases h with |of r=>cases r;rfl
theorem Pk.tup{l:List D}(h:Pk K M H (.tup l) v):∃a xs,v=.ref a/\TupAt K M H a xs/\aC K M H l xs:=by cases h with |of r=>cases r with |tup h1 h2=>exact⟨_,_,rfl,h1,h2⟩
theorem Pk.fix{l:List D}(h:Pk K M H (.fix l) v):∃a xs,v=.ref a/\kM K M H a xs/\aC K M H l xs:=by cases h with |of r=>cases r with |fix h1 h2=>exact⟨_,_,rfl,h1,h2⟩
end
section
theorem vI{f:Value->Value->Sem Value}{k:Int->Int->Int}{i j:Int}(h:jg X f (Eb λi j=>.int (k i j))):jj X z f (.int i) (.int j) (.dat (.int (k i j))):=
 ⟨_,h,λg σ As M H v1 v2 Q s p1 p2 kk=>⟨i,j,p1.int,p2.int,kk _ H As M s (ao.refl _ _) (.int _)⟩⟩
theorem pH{f:Value->Value->Sem Value}{C:Int->Int->Prop}{k:Int->Int->Int}{i j:Int}(h:jg X f (rI C λi j=>.int (k i j)))(hc:C i j):jj X z f (.int i) (.int j) (.dat (.int (k i j))):=
 ⟨_,h,λg σ As M H v1 v2 Q s p1 p2 kk=>⟨i,j,p1.int,p2.int,hc,kk _ H As M s (ao.refl _ _) (.int _)⟩⟩
theorem pI{f:Value->Value->Sem Value}{k:Int->Int->Bool}{i j:Int}(h:jg X f (Eb λi j=>.bl (k i j))):jj X z f (.int i) (.int j) (.dat (.bl (k i j))):=
 ⟨_,h,λg σ As M H v1 v2 Q s p1 p2 kk=>⟨i,j,p1.int,p2.int,kk _ H As M s (ao.refl _ _) (.bl _)⟩⟩
def zU(z:Z)(d1 d2:D)(b:Bool):R2:=λx y H Q=>(∃M,Pk z.K M H d1 x/\Pk z.K M H d2 y)/\Q (.bl b) H
theorem Rw(hK:z.K=X.K)(p1:jc d1=true)(p2:jc d2=true)(hd:X.A.units+dep d1<cLine):jj X z (compareOp .Eq) d1 d2 (.dat (.bl (bO d1 d2))):=by
 refine⟨zU z d1 d2 (bO d1 d2),?_,λg σ As M H v1 v2 Q s q1 q2 kk=>⟨⟨M,q1,q2⟩,kk _ H As M s (ao.refl _ _) (.bl _)⟩⟩
 intro ah s σ H x y v u Q I rx ry h;obtain⟨⟨M,q1,q2⟩,q⟩:=h;rw[hK]at q1 q2;exact (zT (dep d1) (eA _) (q1.dv I rx p1) (q2.dv I ry p2) hd).2 X.prog X.w X.xe _ ⟨.bl _,H,I,rfl,q⟩
section
theorem iK(hl:s.heap.IsList l us.toArray)(hb:s.heap.IsList b ws.toArray)(q:j4 s.heap ls us)(q':j4 s.heap ms ws)(hu:A.units<cLine)
  (he:∀(j:Nat) d1 d2 u1 u2,ls[j]?=some d1->Dv s.heap d1 u1->Dv s.heap d2 u2->SeqAt.EqAt A.in1 s u1 u2 (bO d1 d2)):SeqAt.RcNeAt A s (.ref l) (.ref b) (!bZ ls ms):=by
 have h1:=q.length;have h2:=q'.length;by_cases h:ls.length=ms.length
 .
  rw[<- kP ls ms h];have e:us.toArray.size=ls.length:=by rw[dA,h1]
  rw[<- e];refine SeqAt.RcNeAt.lists hl hb (by rw[dA,dA];lia) hu λj g1 g2=>?_
  rw[dA]at g1 g2;obtain⟨d1,e1,v1⟩:=q.get (j:=j) (u:=us[j]) (by simp[g1])
  obtain⟨d2,e2,v2⟩:=q'.get (j:=j) (u:=ws[j]) (by simp[g2])
  have:=he j d1 d2 us[j] ws[j] e1 v1 v2;simpa [Js,e1,e2]using this
 . rw[kQ ls ms h];refine SeqAt.RcNeAt.lists_lengths hl hb ?_ hu;rw[dA,dA];simp only[bne_iff_ne];lia
theorem xB(hl:IsTup s.heap l us.toArray)(hb:IsTup s.heap b ws.toArray)(q:j4 s.heap ls us)(q':j4 s.heap ms ws)(hu:A.units<cLine)
  (he:∀(j:Nat) d1 d2 u1 u2,ls[j]?=some d1->Dv s.heap d1 u1->Dv s.heap d2 u2->SeqAt.EqAt A.in1 s u1 u2 (bO d1 d2)):SeqAt.RcNeAt A s (.ref l) (.ref b) (!bZ ls ms):=by
 have h1:=q.length;have h2:=q'.length;have e:us.toArray.size=ls.length:=by rw[dA,h1]
 have e':ws.toArray.size=ms.length:=by rw[dA,h2]
 rw[<- qV,<- e,<- e'];refine SeqAt.RcNeAt.tuples hl hb hu λj g1 g2=>?_
 rw[dA]at g1 g2;obtain⟨d1,e1,v1⟩:=q.get (j:=j) (u:=us[j]) (by simp[g1])
 obtain⟨d2,e2,v2⟩:=q'.get (j:=j) (u:=ws[j]) (by simp[g2])
 have:=he j d1 d2 us[j] ws[j] e1 v1 v2;simpa [Js,e1,e2]using this
end
theorem Rx(x:Dv s.heap d1 u1)(y:Dv s.heap d2 u2)(hu:A.units+dep d1<cLine):SeqAt.RcNeAt A s u1 u2 (!bO d1 d2):=by
 have aI:A.units<cLine:=by lia
 have el:∀{l:List D},deps l+1<=dep d1->∀(j:Nat) d1 d2 u1 u2,l[j]?=some d1->Dv s.heap d1 u1->Dv s.heap d2 u2->SeqAt.EqAt A.in1 s u1 u2 (bO d1 d2):=λhl j e1 e2 u1 u2 e v1 v2=>
  (zT (dep e1) (eA _) v1 v2 (by rw[in1_units];have:=kT e;lia)).1
 cases x with
 |tup h q=>
  cases y with
  |tup h' q'=>exact xB h h' q q' aI (el (by simp[dep]))
  |lst h' q'=>exact .tuple_list h h' aI
  |fix h' q'=>exact .tuple_list h h' aI
  |non=>exact .tuple_none h aI
  |bl b=>exact .tuple_bool b h aI
  |int b t=>exact .tuple_int b t h aI
  |str b t=>exact .tuple_str b t h aI
 |lst h q=>
  cases y with
  |tup h' q'=>exact .list_tuple h h' aI
  |lst h' q'=>exact iK h h' q q' aI (el (by simp[dep]))
  |fix h' q'=>exact iK h h' q q' aI (el (by simp[dep]))
  |non=>exact .list_none h aI
  |bl b=>exact .list_bool b h aI
  |int b t=>exact .list_int b t h aI
  |str b t=>exact .list_str b t h aI
 |fix h q=>
  cases y with
  |tup h' q'=>exact .list_tuple h h' aI
  |lst h' q'=>exact iK h h' q q' aI (el (by simp[dep]))
  |fix h' q'=>exact iK h h' q q' aI (el (by simp[dep]))
  |non=>exact .list_none h aI
  |bl b=>exact .list_bool b h aI
  |int b t=>exact .list_int b t h aI
  |str b t=>exact .list_str b t h aI
 |non=>
  cases y with
  |non=>exact .none_none
  |bl c'=>exact .none_bool c'
  |int c' t'=>exact .none_int c' t'
  |str c' t'=>exact .none_str c' t'
  |tup h' q'=>exact .none_tuple h' aI
  |lst h' q'=>exact .none_list h' aI
  |fix h' q'=>exact .none_list h' aI
 |bl c=>
  cases y with
  |non=>exact .bool_none c
  |bl c'=>exact .bool_bool c c'
  |int c' t'=>exact .bool_int c c' t'
  |str c' t'=>exact .bool_str c c' t'
  |tup h' q'=>exact .bool_tuple c h' aI
  |lst h' q'=>exact .bool_list c h' aI
  |fix h' q'=>exact .bool_list c h' aI
 |int c t=>
  cases y with
  |non=>exact .int_none c t
  |bl c'=>exact .int_bool c t c'
  |int c' t'=>exact .int_int c t c' t'
  |str c' t'=>exact .int_str c t c' t'
  |tup h' q'=>exact .int_tuple c t h' aI
  |lst h' q'=>exact .int_list c t h' aI
  |fix h' q'=>exact .int_list c t h' aI
 |str c t=>
  cases y with
  |non=>exact .str_none c t
  |bl c'=>exact .str_bool c t c'
  |int c' t'=>exact .str_int c t c' t'
  |str c' t'=>exact .str_str c t c' t'
  |tup h' q'=>exact .str_tuple c t h' aI
  |lst h' q'=>exact .str_list c t h' aI
  |fix h' q'=>exact .str_list c t h' aI
theorem Ry(hK:z.K=X.K)(p1:jc d1=true)(p2:jc d2=true)(hd:X.A.units+dep d1<cLine):jj X z (compareOp .NotEq) d1 d2 (.dat (.bl (!bO d1 d2))):=by
 refine⟨zU z d1 d2 (!bO d1 d2),?_,λg σ As M H v1 v2 Q s q1 q2 kk=>⟨⟨M,q1,q2⟩,kk _ H As M s (ao.refl _ _) (.bl _)⟩⟩
 intro ah s σ H x y v u Q I rx ry h;obtain⟨⟨M,q1,q2⟩,q⟩:=h;rw[hK]at q1 q2;exact Rx (q1.dv I rx p1) (q2.dv I ry p2) hd X.prog X.w X.xe _ ⟨.bl _,H,I,rfl,q⟩
theorem zV(q:Dv h d u):∀d' x,Dv h d' u->bO d x=bO d' x:=by
 have two:∀{l l':List D} (x:D),(∀m,bZ l m=bZ l' m)->bO (.lst l) x=bO (.lst l') x/\bO (.fix l) x=bO (.lst l') x/\bO (.lst l) x=bO (.fix l') x/\bO (.fix l) x=bO (.fix l') x:=λx k=>by
  cases x with
  |lst m=>exact⟨k m,k m,k m,k m⟩
  |fix m=>exact⟨k m,k m,k m,k m⟩
  |_=>exact⟨rfl,rfl,rfl,rfl⟩
 refine Dv.rec (motive_1:=λd u _=>∀d' x,Dv h d' u->bO d x=bO d' x) (motive_2:=λl us _=>∀l' m,j4 h l' us->bZ l m=bZ l' m) ?_ ?_ ?_ ?_ ?_ ?_ ?_ ?_ ?_ q
 . intro d' x q;cases q;rfl
 . intro b d' x q;cases q;rfl
 . intro i t d' x q;cases q;rfl
 . intro y t d' x q;cases q;rfl
 .
  intro l a us k _ ih d' x q;cases q with
  |tup y q'=>
   cases nJ k y;cases x with
   |tup m=>exact ih _ m q'
   |_=>rfl
  |lst y _=>exact (cC k y).elim
  |fix y _=>exact (cC k y).elim
 .
  intro l a us k _ ih d' x q;cases q with
  |tup y _=>exact (cC y k).elim
  |lst y q'=>cases bz k y;exact (two x λm=>ih _ m q').1
  |fix y q'=>cases bz k y;exact (two x λm=>ih _ m q').2.2.1
 .
  intro l a us k _ ih d' x q;cases q with
  |tup y _=>exact (cC y k).elim
  |lst y q'=>cases bz k y;exact (two x λm=>ih _ m q').2.1
  |fix y q'=>cases bz k y;exact (two x λm=>ih _ m q').2.2.2
 . intro l' m q;cases q;rfl
 .
  intro d ds u us _ _ i1 i2 l' m q;cases q with
  |@cons d' l' _ _ b q'=>cases m with
   |nil=>rfl
   |cons y m=>show (bO d y&&bZ ds m)=(bO d' y&&bZ l' m);rw[i1 _ y b,i2 _ m q']
theorem Ge(x:D)(q:Dv h d u)(q':Dv h d' u):bO d x=bO d' x:=zV q d' x q'
open Classical in
def xC(h:Heap)(x:D)(u:Value):Bool:=decide (∃d,Dv h d u/\bO d x=true)
open Classical in
theorem zW(q:Dv h d u):xC h x u=bO d x:=by
 unfold xC;cases e:bO d x with
 |true=>exact sT ⟨d,q,e⟩
 |false=>refine qS ?_;rintro⟨d',q',e'⟩;rw[Ge x q' q,e]at e';cases e'
theorem pJ(q:j4 h l us):us.any (xC h x)=l.any λd=>bO d x:=by
 induction l generalizing us with
 |nil=>cases q;rfl
 |cons d l ih=>cases q with |cons a b=>rw[List.any_cons,List.any_cons,zW a,ih b]
def Wm(z:Z)(d1 d2:D)(b:Bool):R2:=zU z d1 d2 b
theorem uf{A:Around}{s:Shared}{x:D}{u:Value}{l:List D}{us:List Value}(q:j4 s.heap l us)(hx:Dv s.heap x u)(hu:A.units+deps l+1<cLine):∀y,y∈us.toArray->SeqAt.EqAt A.in1 s y u (xC s.heap x y):=by
 intro y hy;have hy':y∈us:=by simpa using hy
 obtain⟨j,hj⟩:=List.getElem?_of_mem hy';obtain⟨d,e,qd⟩:=q.get hj;rw[zW qd];have:=kT e;exact (zT (dep d) (eA _) qd hx (by rw[in1_units];lia)).1
noncomputable def eL:D->Option (List D)
 |.lst l=>some l
 |.tup l=>some l
 |.fix l=>some l
 |_=>none
theorem Rz(hK:z.K=X.K)(hs:eL d2=some l)(p1:jc d1=true)(p2:iI l=true)(hd:X.A.units+deps l+1<cLine):jj X z (compareOp .In) d1 d2 (.dat (.bl (l.any λd=>bO d d1))):=by
 refine⟨Wm z d1 d2 (l.any λd=>bO d d1),?_,λg σ As M H v1 v2 Q s q1 q2 kk=>⟨⟨M,q1,q2⟩,kk _ H As M s (ao.refl _ _) (.bl _)⟩⟩
 intro ah s σ H x y v u Q I rx ry h;obtain⟨⟨M,q1,q2⟩,q⟩:=h;rw[hK]at q1 q2;have hx:=q1.dv I rx p1;cases d2 with
 |lst m=>
  cases hs;obtain⟨a,xs,rfl,ha,rr⟩:=q2.list;cases ry;obtain⟨its,rv,pl,hz⟩:=I.list (bU.of ha);have qM:=rr.dv I rv p2;refine SeqAt.in_listAt (xC s.heap d1) pl.isList (uf qM hx hd) ⟨.bl _,H,I,rfl,?_⟩;rw[show its.toArray.any (xC s.heap d1)=its.any (xC s.heap d1)by simp,pJ qM]
  exact q
 |fix m=>
  cases hs;obtain⟨a,xs,rfl,ha,rr⟩:=q2.fix;cases ry;obtain⟨its,rv,pl,hz⟩:=I.list ha.sq;have qM:=rr.dv I rv p2;refine SeqAt.in_listAt (xC s.heap d1) pl.isList (uf qM hx hd) ⟨.bl _,H,I,rfl,?_⟩;rw[show its.toArray.any (xC s.heap d1)=its.any (xC s.heap d1)by simp,pJ qM]
  exact q
 |tup m=>
  cases hs;obtain⟨a,xs,rfl,ha,rr⟩:=q2.tup;cases ry;obtain⟨its,rv,pl,hz⟩:=I.tuple ha.sq;have qM:=rr.dv I rv p2;refine SeqAt.in_tupleAt (xC s.heap d1) pl (uf qM hx hd) ⟨.bl _,H,I,rfl,?_⟩;rw[show its.toArray.any (xC s.heap d1)=its.any (xC s.heap d1)by simp,pJ qM]
  exact q
 |_=>cases hs
theorem qW(b:Bool)(r:RelV x v):plainIs v (.bool b)=true/\(v==Value.bool b)=decide (x=V.bl b):=by
 cases x with
 |non=>cases r;exact⟨rfl,rfl⟩
 |bl c=>cases r;exact⟨rfl,by cases c <;> cases b <;> rfl⟩
 |int _=>obtain⟨t,rfl⟩:=r;exact⟨rfl,rfl⟩
 |str _=>obtain⟨t,rfl⟩:=r;exact⟨rfl,rfl⟩
 |Jk _=>obtain⟨t,rfl⟩:=r;exact⟨rfl,rfl⟩
 |flt _=>obtain⟨t,rfl⟩:=r;exact⟨rfl,rfl⟩
 |ref _=>cases r;exact⟨rfl,rfl⟩
 |ty _=>cases r;exact⟨rfl,rfl⟩
def Ju(d:D)(b:Bool):Bool:=match d with |.bl c=>c==b |_=>false
theorem zX{K:Frag}{M:List Addr}{H:Hp}{d:D}{x:V}{b:Bool}(h:Pk K M H d x):decide (x=V.bl b)=Ju d b:=by
 cases h with
 |of r=>
  cases r with
  |bl c=>cases c <;> cases b <;> rfl
  |_=>rfl
 |lst _ _=>rfl
theorem RB{d1:D}{b:Bool}:jj X z (compareOp .Is) d1 (.bl b) (.dat (.bl (Ju d1 b))):=by
 refine⟨zU z d1 (.bl b) (Ju d1 b),?_,λg σ As M H v1 v2 Q s q1 q2 kk=>⟨⟨M,q1,q2⟩,kk _ H As M s (ao.refl _ _) (.bl _)⟩⟩
 intro ah s σ H x y v u Q I rx ry h;obtain⟨⟨M,q1,q2⟩,q⟩:=h;have e:=q2.bl;subst e;cases ry;obtain⟨h1,h2⟩:=qW b rx;refine wpAny_is_plain h1 ⟨.bl (Ju d1 b),H,I,?_,q⟩;rw[h2,zX q1];rfl
theorem zY{d1:D}{b:Bool}:jj X z (compareOp .IsNot) d1 (.bl b) (.dat (.bl (!Ju d1 b))):=by
 refine⟨zU z d1 (.bl b) (!Ju d1 b),?_,λg σ As M H v1 v2 Q s q1 q2 kk=>⟨⟨M,q1,q2⟩,kk _ H As M s (ao.refl _ _) (.bl _)⟩⟩
 intro ah s σ H x y v u Q I rx ry h;obtain⟨⟨M,q1,q2⟩,q⟩:=h;have e:=q2.bl;subst e;cases ry;obtain⟨h1,h2⟩:=qW b rx;refine wpAny_isNot_plain h1 ⟨.bl (!Ju d1 b),H,I,?_,q⟩;rw[h2,zX q1];rfl
def Gf(d:D):Bool:=match d with |.non=>true |_=>false
theorem zZ{K:Frag}{M:List Addr}{H:Hp}{d:D}{x:V}(h:Pk K M H d x):decide (x=V.non)=Gf d:=by
 cases h with
 |of r=>cases r <;> rfl
 |lst _ _=>rfl
theorem Ly{d1:D}:jj X z (compareOp .Is) d1 .non (.dat (.bl (Gf d1))):=
 ⟨_,Kw,λg σ As M H v1 v2 Q s q1 q2 kk=>⟨q2.non,by rw[zZ q1];exact kk _ H As M s (ao.refl _ _) (.bl _)⟩⟩
theorem Gg{d1:D}:jj X z (compareOp .IsNot) d1 .non (.dat (.bl (!Gf d1))):=
 ⟨_,Ey,λg σ As M H v1 v2 Q s q1 q2 kk=>⟨q2.non,by rw[zZ q1];exact kk _ H As M s (ao.refl _ _) (.bl _)⟩⟩
theorem Lz(h:l.length+m.length<=16777216):jj X z (binaryOp .Add) (.lst l) (.lst m) (.new (l++m)):=by
 refine⟨_,K3,λg σ As M H v1 v2 Q s q1 q2 kk=>?_⟩
 obtain⟨a,xs,rfl,ha,ra⟩:=q1.list;obtain⟨b,ys,rfl,hb,rb⟩:=q2.list;refine⟨a,b,xs,ys,rfl,rfl,ha,hb,by rw[<- ra.length,<- rb.length];exact jG h,λp hp=>?_⟩
 exact kk _ _ As (p::M) (s.aK hp) (ao.aK hp) ⟨p,_,rfl,dC,λhA=>s.fresh hp (s.sub p hA),s.bQ hp,aD,(ra.append rb).stay (ao.aK hp)⟩
theorem LC(h1 : -(2 ^ 63)<=k)(h2:k<2 ^ 63)(h:l.length * k.toNat<=16777216):jj X z (binaryOp .Mult) (.lst l) (.int k) (.new (List.replicate k.toNat l).flatten):=by
 refine⟨_,K4,λg σ As M H v1 v2 Q s q1 q2 kk=>?_⟩
 obtain⟨a,xs,rfl,ha,ra⟩:=q1.list;have rr:∀n,aC z.K M H (List.replicate n l).flatten (List.replicate n xs).flatten:=λn=>by
  induction n with
  |zero=>simp;exact .nil
  |succ n ih=>rw[oP,oP,AG,AG];exact ra.append ih
 refine⟨a,k,xs,rfl,q2.int,ha,h1,h2,by rw[<- ra.length];exact jG h,λp hp=>?_⟩
 exact kk _ _ As (p::M) (s.aK hp) (ao.aK hp) ⟨p,_,rfl,dC,λhA=>s.fresh hp (s.sub p hA),s.bQ hp,aD,(rr _).stay (ao.aK hp)⟩
def LK(K:Frag):R2:=λx y H Q=>∃a b xs ys,x=.ref a/\y=.ref b/\eZ K H a xs/\eZ K H b ys/\xs.length+ys.length<=sizeLine/\
 (xs=[]->Q (.ref b) H)/\(xs≠[]->ys=[]->Q (.ref a) H)/\(xs≠[]->ys≠[]->∀p,H p=none->Q (.ref p) (upd H p (.tup (xs++ys))))
theorem z7:jg X (binaryOp .Add) (LK X.K):=by
 intro ah s σ H x y v u Q I rx ry h;obtain⟨a,b,xs,ys,rfl,rfl,ha,hb,hz,q0,q1,q2⟩:=h;by_cases hx:xs=[]
 .
  subst hx;cases rx;cases ry;obtain⟨its,r1,p1,_⟩:=I.tuple ha;obtain⟨iB,r2,p2,_⟩:=I.tuple hb;cases r1;obtain⟨⟨cls,dd,data,sl⟩,ho,hc,n,hd⟩:=id p1;obtain⟨⟨Q9,dd2,data2,sl2⟩,ho2,hc2,n2,hd2⟩:=id p2;simp only at hc hd hc2 hd2;subst hc hd hc2 hd2;exact concat_meets ⟨_,ho,rfl⟩ ⟨_,ho2,rfl⟩ noFill_tuple_add seq_tuple_add BO BD (Bn _ _)
   (tuple_addW0 a b #[] iB.toArray n n2 dd dd2 sl sl2 ⋯) ⟨ho,ho2,⟨.ref b,H,I,rfl,q0 rfl⟩⟩
 . exact Fj ah s σ H (.ref a) (.ref b) v u Q I rx ry ⟨a,b,xs,ys,rfl,rfl,ha,hb,hx,hz,q1 hx,q2 hx⟩
theorem Gh(hK:z.K=X.K)(h:l.length+m.length<=16777216):jj X z (binaryOp .Add) (.tup l) (.tup m) (.dat (.tup (l++m))):=by
 refine⟨_,z7,λg σ As M H v1 v2 Q s q1 q2 kk=>?_⟩
 obtain⟨a,xs,rfl,ha,ra⟩:=q1.tup;obtain⟨b,ys,rfl,hb,rb⟩:=q2.tup;have la:=ra.length;have lb:=rb.length;refine⟨a,b,xs,ys,rfl,rfl,hK▸ha.sq,hK▸hb.sq,by rw[<- la,<- lb];exact jG h,λe=>?_,λe1 e2=>?_,λe1 e2 p hp=>?_⟩
 .
  subst e;cases l with
  |nil=>exact kk _ H As M s (ao.refl _ _) (.tup hb rb)
  |cons _ _=>simp at la
 .
  subst e2;cases m with
  |nil=>rw[tP]at kk;exact kk _ H As M s (ao.refl _ _) (.tup ha ra)
  |cons _ _=>simp at lb
 . exact kk _ _ As M (s.laid hp) (ao.laid hp) (.tup (.inl ⟨s.fresh hp,.inl aD⟩) ((ra.append rb).stay (ao.laid hp)))
theorem kU{K:Frag}{M:List Addr}{H:Hp}{l:List D}{xs:List V}{i:Int}{d:D}(r:aC K M H l xs)(h:dM l i=some d):∃v,dM xs i=some v/\Rep K M H d v:=by
 unfold dM at h ⊢
 rw[<- r.length];cases e:vB l.length i with
 |none=>rw[e]at h;cases h
 |some j=>rw[e]at h;have h':l[j]?=some d:=h;obtain⟨v,h1,h2⟩:=r.get h';exact⟨v,h1,h2⟩
theorem LQ{l:List D}{i:Int}{d:D}(hK:z.K=X.K)(h:dM l i=some d):P6 X z (.lst l) (.int i) (.dat d):=by
 refine⟨_,vD,λg σ As M H v1 v2 Q s q1 q2 kk=>?_⟩
 obtain⟨a,xs,rfl,ha,ra⟩:=q1.list;obtain⟨v,e,r⟩:=kU ra h;exact⟨a,xs,i,v,rfl,q2.int,bU.of ha,e,kk _ H As M s (ao.refl _ _) r⟩
theorem LR{l:List D}{i:Int}{d:D}(hK:z.K=X.K)(h:dM l i=some d):P6 X z (.fix l) (.int i) (.dat d):=by
 refine⟨_,vD,λg σ As M H v1 v2 Q s q1 q2 kk=>?_⟩
 obtain⟨a,xs,rfl,ha,ra⟩:=q1.fix;obtain⟨v,e,r⟩:=kU ra h;exact⟨a,xs,i,v,rfl,q2.int,hK▸ha.sq,e,kk _ H As M s (ao.refl _ _) r⟩
theorem Gi{l:List D}{i:Int}{d:D}(hK:z.K=X.K)(h:dM l i=some d):P6 X z (.tup l) (.int i) (.dat d):=by
 refine⟨_,KR,λg σ As M H v1 v2 Q s q1 q2 kk=>?_⟩
 obtain⟨a,xs,rfl,ha,ra⟩:=q1.tup;obtain⟨v,e,r⟩:=kU ra h;exact⟨a,xs,i,v,rfl,q2.int,hK▸ha.sq,e,kk _ H As M s (ao.refl _ _) r⟩
noncomputable def bA:List D->Option (List Int)
 | []=>some []
 |.int i::l=>match bA l with |some ns=>some (i::ns) |none=>none
 |_::_=>none
theorem bE{K:Frag}{M:List Addr}{H:Hp}{l:List D}{xs:List V}{ns:List Int}(q:aC K M H l xs)(e:bA l=some ns):xs=ns.map V.int:=by
 induction l generalizing xs ns with
 |nil=>cases q;cases e;rfl
 |cons d l ih=>cases q with |cons r q=>cases d with
  |int i=>
   have e:(match bA l with |some ns=>some (i::ns) |none=>none)=some ns:=e
   cases e2:bA l with
   |none=>rw[e2]at e;cases e
   |some ns=>rw[e2]at e;cases e;cases r;rw[List.map_cons,ih q e2]
  |_=>cases e
theorem LW{l m:List D}{ns ms:List Int}(hK:z.K=X.K)(hu:X.A.units<cLine)(h1:bA l=some ns)(h2:bA m=some ms):jj X z (compareOp .Lt) (.tup l) (.tup m) (.dat (.bl (HT.lexLt ns ms))):=by
 refine⟨_,KQ hu,λg σ As M H v1 v2 Q s q1 q2 kk=>?_⟩
 obtain⟨a,xs,rfl,ha,ra⟩:=q1.tup;obtain⟨b,ys,rfl,hb,rb⟩:=q2.tup;have e1:=bE ra h1;have e2:=bE rb h2;subst e1 e2;exact⟨a,b,ns,ms,rfl,rfl,hK▸ha.sq,hK▸hb.sq,kk _ H As M s (ao.refl _ _) (.bl _)⟩
theorem L0:XR X z (unaryOp .USub) (.int i) (.dat (.int (-i))):=⟨_,zq,λg σ As M H v Q s p k=>⟨i,p.int,k _ H As M s (ao.refl _ _) (.int _)⟩⟩
end
section
theorem Gb.one{K:Frag}{M:List Addr}{H:Hp}{d:D}{vs:List V}(h:Gb K M H [d] vs):∃v,vs=[v]/\Pk K M H d v:=by cases h with |cons p q=>cases q;exact⟨_,rfl,p⟩
theorem Gb.two{K:Frag}{M:List Addr}{H:Hp}{d e:D}{vs:List V}(h:Gb K M H [d,e] vs):∃v w,vs=[v,w]/\Pk K M H d v/\Pk K M H e w:=by cases h with |cons p q=>cases q with |cons p' q'=>cases q';exact⟨_,_,rfl,p,p'⟩
noncomputable def RC:D->Option Nat
 |.lst l=>some l.length
 |.tup l=>some l.length
 |.fix l=>some l.length
 |_=>none
theorem L5{d:D}{n:Nat}(hK:z.K=X.K)(h:RC d=some n):CallD X z (.builtin "len") [d] (.dat (.int n)):=by
 refine⟨_,zA,λg σ As M H vs Q s p k=>?_⟩
 obtain⟨v,rfl,pv⟩:=p.one;refine⟨v,n,rfl,?_,k _ H As M s (ao.refl _ _) (.int _)⟩;cases d with
 |lst l=>cases h;obtain⟨a,xs,rfl,ha,r⟩:=pv.list;exact .inl ⟨xs,bU.of ha,r.length⟩
 |fix l=>cases h;obtain⟨a,xs,rfl,ha,r⟩:=pv.fix;exact .inl ⟨xs,hK▸ha.sq,r.length⟩
 |tup l=>cases h;obtain⟨a,xs,rfl,ha,r⟩:=pv.tup;exact .inr ⟨xs,hK▸ha.sq,r.length⟩
 |_=>cases h
theorem Gj{d:D}{l:List D}(hK:z.K=X.K)(h:eL d=some l):CallD X z (.type "list") [d] (.new l):=by
 refine⟨_,o8,λg σ As M H vs Q s p k=>?_⟩
 obtain⟨v,rfl,pv⟩:=p.one;have fin:∀xs,aC z.K M H l xs->∀p,H p=none->Q (.ref p) (upd H p (.lst xs)):=λxs r p hp=>
  k _ _ As (p::M) (s.aK hp) (ao.aK hp) ⟨p,xs,rfl,dC,λhA=>s.fresh hp (s.sub p hA),s.bQ hp,aD,r.stay (ao.aK hp)⟩
 cases d with
 |lst m=>cases h;obtain⟨a,xs,rfl,ha,r⟩:=pv.list;exact⟨a,xs,rfl,.inl (bU.of ha),fin xs r⟩
 |fix m=>cases h;obtain⟨a,xs,rfl,ha,r⟩:=pv.fix;exact⟨a,xs,rfl,.inl (hK▸ha.sq),fin xs r⟩
 |tup m=>cases h;obtain⟨a,xs,rfl,ha,r⟩:=pv.tup;exact⟨a,xs,rfl,.inr (hK▸ha.sq),fin xs r⟩
 |_=>cases h
theorem z8{d:D}{l:List D}(hK:z.K=X.K)(h:eL d=some l):CallD X z (.type "tuple") [d] (.dat (.tup l)):=by
 refine⟨_,mO,λg σ As M H vs Q s p k=>?_⟩
 obtain⟨v,rfl,pv⟩:=p.one;have fin:∀xs,aC z.K M H l xs->∀p,H p=none->Q (.ref p) (upd H p (.tup xs)):=λxs r p hp=>
  k _ _ As M (s.laid hp) (ao.laid hp) (.tup (.inl ⟨s.fresh hp,.inl aD⟩) (r.stay (ao.laid hp)))
 cases d with
 |lst m=>cases h;obtain⟨a,xs,rfl,ha,r⟩:=pv.list;exact⟨a,xs,rfl,.inl ⟨bU.of ha,fin xs r⟩⟩
 |fix m=>cases h;obtain⟨a,xs,rfl,ha,r⟩:=pv.fix;exact⟨a,xs,rfl,.inl ⟨hK▸ha.sq,fin xs r⟩⟩
 |tup m=>cases h;obtain⟨a,xs,rfl,ha,r⟩:=pv.tup;exact⟨a,xs,rfl,.inr ⟨hK▸ha.sq,k _ H As M s (ao.refl _ _) (.tup ha r)⟩⟩
 |_=>cases h
theorem L7{i j:Int}(hc:X.calm=true):CallD X z (.builtin "max") [.int i,.int j] (.dat (.int (if j > i then j else i))):=by
 refine⟨_,wY hc,λg σ As M H vs Q s p k=>?_⟩
 obtain⟨v,w,rfl,p1,p2⟩:=p.two;exact⟨i,j,by rw[p1.int,p2.int],k _ H As M s (ao.refl _ _) (.int _)⟩
theorem L8{i j:Int}(hc:X.calm=true):CallD X z (.builtin "min") [.int i,.int j] (.dat (.int (if j<i then j else i))):=by
 refine⟨_,wZ hc,λg σ As M H vs Q s p k=>?_⟩
 obtain⟨v,w,rfl,p1,p2⟩:=p.two;exact⟨i,j,by rw[p1.int,p2.int],k _ H As M s (ao.refl _ _) (.int _)⟩
theorem Ma{i:Int}(h:i.natAbs.log2<1920):CallD X z (.type "str") [.int i] (.dat (.str (toString i))):=by
 refine⟨_,oU,λg σ As M H vs Q s p k=>?_⟩
 obtain⟨v,rfl,p1⟩:=p.one;exact⟨i,by rw[p1.int],h,k _ H As M s (ao.refl _ _) (.str _)⟩
end
section
theorem kW(hc:X.calm=true):dz X (.builtin "all") (λxs H Q=>∃(p:Addr) (bs:List Bool),xs=[.ref p]/\bU X.K H p (bs.map V.bl)/\Q (.bl (bs.all id)) H):=by
 intro ah s σ H xs us Q I r h;obtain⟨p,bs,rfl,hp,q⟩:=h;obtain⟨u,rfl,rx⟩:=vals1 r;cases rx;obtain⟨its,rv,pl,hz⟩:=I.list hp;have iZ:p<s⁻¹:=by obtain⟨_,e,_⟩:=pl.isList;exact eP e
 have aF:its.length=bs.length:=by rw[<- rv.length,gL]
 have up:∀b o,s.heap.get? b=some o->(s.heap.push { cls:=.type "list_iterator",data:=.fields #[.ref p,.int 0 0]}).get? b=some o:=λb o e=>a9 _ e
 refine call_all_walk (wpAny_pyIter_list pl.isList ?_);refine⟨s⁻¹,_,_,_,_,_,λi=>bs.getD i true,rfl,Walks.list (A:=X.A.in1) (show X.A.in1.handled=none from I.ok.hd hc) s⁻¹ p (kA iZ) its.toArray,⟨⟨_,eC _ rfl,rfl,rfl⟩,pl.isList.push _⟩,?_,λh' tk hk=>?_⟩
 .
  intro i v s' Q' E' hv hq;have hv':its[i]?=some v:=by simpa using hv
  have hi:i<bs.length:=by rw[<- aF];exact (dE.mp hv').1
  obtain⟨w,e1,e2⟩:=rv.get (i:=i) (x:=V.bl bs[i]) (by simp[hi])
  rw[hv']at e1;cases e1;cases e2;refine nN ?_;have:bs.getD i true=bs[i]:=by simp[List.getD,hi]
  rw[<- this];exact hq
 .
  have I1:L2.Inv X ah σ H { s with heap:=h',toks:=tk}:=I.kept λb o e=>hk b o (λhm=>by
   have:b=s⁻¹:=by simpa using hm
   exact absurd (eP e) (by rw[this];exact tJ _)) (up b o e)
  refine⟨.bl (bs.all id),H,I1,?_,q⟩;have e:(List.range its.toArray.size).all (λi=>bs.getD i true)=bs.all id:=by
   rw[dA,aF];rw[Bool.eq_iff_iff];simp only[AO,pV,id];constructor
   . intro h b hb;obtain⟨j,hj⟩:=List.getElem?_of_mem hb;have hj':=(dE.mp hj).1;have:=h j hj';simpa [List.getD,hj]using this
   . intro h i hi;have:=h bs[i] (sK hi);simpa [List.getD,hi]using this
  rw[e];rfl
noncomputable def qX:List D->Option (List Bool)
 | []=>some []
 |.bl b::l=>match qX l with |some bs=>some (b::bs) |none=>none
 |_::_=>none
theorem z9{K:Frag}{M:List Addr}{H:Hp}{l:List D}{xs:List V}{ns:List Bool}(q:aC K M H l xs)(e:qX l=some ns):xs=ns.map V.bl:=by
 induction l generalizing xs ns with
 |nil=>cases q;cases e;rfl
 |cons d l ih=>cases q with |cons r q=>cases d with
  |bl i=>
   have e:(match qX l with |some ns=>some (i::ns) |none=>none)=some ns:=e
   cases e2:qX l with
   |none=>rw[e2]at e;cases e
   |some ns=>rw[e2]at e;cases e;cases r;rw[List.map_cons,ih q e2]
  |_=>cases e
theorem Mf{l:List D}{bs:List Bool}(hc:X.calm=true)(h:qX l=some bs):CallD X z (.builtin "all") [.lst l] (.dat (.bl (bs.all id))):=by
 refine⟨_,kW hc,λg σ As M H vs Q s p k=>?_⟩
 obtain⟨v,rfl,pv⟩:=p.one;obtain⟨a,xs,rfl,ha,r⟩:=pv.list;have e:=z9 r h;subst e;exact⟨a,bs,rfl,bU.of ha,k _ H As M s (ao.refl _ _) (.bl _)⟩
end
noncomputable def j5:D->String
 |.non=> "NoneType" |.bl _=> "bool" |.int _=> "int" |.str _=> "str" |.tup _=> "tuple" |.lst _=> "list" |.fix _=> "list" |.emp=> "dict" |.vG _=> "" |.qB ..=> "dict"
def Ed:D->Value
 |.vG C=>.ref C
 |d=>.type (j5 d)
theorem xD{M:Model}{A:Around}{E:Value->Shared->Prop}{K:Frag}{x C:Addr}{ox:Obj}{nv:Value}{Q:Unit->Shared->Prop}{s:Shared}(X:K.In s.heap)(I:PySem.W.InstAt s.heap x ox C none)(hb:PySem.W.mroIn K C (.type "BaseException")=some true)(hq:Q () s) :
  wpAny M A (checkBuiltinCall "BaseException.__getattribute__" ⟨[.ref x,nv],[]⟩) Q E s:=by
 have kd:builtinKind "BaseException.__getattribute__"=some .slot:=by decide +kernel
 have sd:splitId "BaseException.__getattribute__"=some ("BaseException", "__getattribute__"):=by decide +kernel
 have ha:=F.args_bexc_ga (.ref x) nv;obtain⟨hv,ge,dr,tk,o'⟩:=s;have l0:=I.type (M:=M);have l1:=PySem.W.looks_mroIn (M:=M) X hb;simp only[checkBuiltinCall,kd,sd];unfold isInstance;refine aS (aS (l0.at (l1.at ?_)))
 repeat (any_goals (first |assumption |wp_step))
theorem Aa{prog:Program}{w:World}{A:Around}{E:Value->Shared->Prop}{K:Frag}{x C:Addr}{ox:Obj}{name:Str}{g a:Value}{Q:Option Value->Shared->Prop}{s:Shared}(X:K.In s.heap)(I:PySem.W.InstAt s.heap x ox C none)
  (hga:PySem.W.findIn K (.ref C) "__getattribute__"=some (some (.builtin "BaseException.__getattribute__"))) (hk:PySem.W.findIn K (.ref C) "__getattr__"=some none) (hb:PySem.W.mroIn K C (.type "BaseException")=some true) (hf:PySem.W.findObj K C none name=some (.bind g a))
  (h:wpAny (model prog w) A.in1 (call g [a,.ref x,.ref C]) (λv s'=>wpAny (model prog w) A (handedOut v) (λv s''=>Q (some v) s'') (λ_ _=>False) s') (λ_ _=>False) { s with toks:=s.toks+1}) :
  wpAny (model prog w) A (getAttr? (.ref x) name) Q E s:=by
 obtain⟨hv,ge,dr,tk,o'⟩:=s;have l0:=I.type (M:=model prog w);have l1:=PySem.W.looks_findIn (M:=model prog w) X hga;have l2:=PySem.W.looks_findIn (M:=model prog w) X hk;have l3:=PySem.W.looks_find (M:=model prog w) X I hf;have f3:=F.excAttr_ValueError.ga.bind (.ref x);unfold getAttr? getAttrBy? getAttrBy;refine aS (wpAny_mkText (aS (BE (i7 (aS (l0.at (aS (l1.at ?_))))))));show wpAny _ _ (getAttrByItsOwn _ _ _ _ _ _) _ _ _;unfold getAttrByItsOwn;refine aS (l2.at (aS (BE (i7 ?_))));show wpAny _ _ (boundAndCalled _ _ _) _ _ _;unfold boundAndCalled;rw[f3];refine aS (bP (wpAny_call (codeAny_call_builtin F.excAttr_ValueError.ga.plain F.entry_bexc_ga (xD X I hb ?_))));refine aS (bP (aS (bP (aS (l0.at (aS (l3.at ?_)))))));show wpAny _ _ (Builtin.ObjectAttr.bindTo _ _ _ _) _ _ _;show wpAny _ _ (holding [a] (call g [a,.ref x,.ref C]) >>= ret) _ _ _;refine aS (i7 (nK h (λv s' z=>bP ?_) λ_ _ z=>z.elim))
 exact nK z (λv s'' hv=>bP hv) (λ_ _ z=>z.elim)
theorem jl{K:Frag}{C:Addr}(k:Rp K C):∃c d cd sl,K.lookup C=some ⟨c,d,.cls cd,sl⟩/\PySem.W.clsIn K C=some cd:=by
 obtain⟨cd,hc,_⟩:=PySem.W.any_some k.dct;have hc':=hc;unfold PySem.W.clsIn at hc;split at hc
 . rename_i c d cd' sl ho;cases hc;exact⟨c,d,cd,sl,ho,hc'⟩
 . cases hc
theorem qY{K:Frag}{x C:Addr}(k:Rp K C):PySem.W.KitX K (.ref x) (.ref C) (λh=>∃ox,PySem.W.InstAt h x ox C none) where
 ty:=λ_ _ _ ⟨_,I⟩=>I.type
 it:=λ_ _ X _=>by
  obtain⟨c,d,cd,sl,ho,_⟩:=jl k;intro A' Q' E' s' kp q;unfold isType loadHead;refine aS ?_;refine wpAny_loadPart (kp _ _ (X _ _ ho)) ?_;exact bP q
 ne:=λh tp dd its n sl X htp=>by
  obtain⟨c,d,cd,Xw,ho,_⟩:=jl k;cases q:(Value.ref C==Value.ref tp)with
  |false=>rfl
  |true=>have e:C=tp:=Value.ref.inj (beq_iff_eq.mp q);subst e;have y:=(X _ _ ho).symm.trans htp;cases y
 ca:=λ{prog w A E Q s} X ⟨ox,I⟩ h=>by
  obtain⟨_,_,cd,_,_,hc⟩:=jl k;have hf:PySem.W.findObj K C none "__class__"=some (.bind (.builtin "getset_descriptor.__get__") (.builtin "object.__class__")):=by unfold PySem.W.findObj;rw[hc,Option.bind_some,k.cls,Option.bind_some];simp[k.Zi,k.tks]
  refine Aa X I k.Zf k.Zg k.Zh hf (wpAny_call ?_);exact PySem.W.class_get (s:={ s with toks:=s.toks+1}) (ox:=ox) (od:=none) X I k.mro (PySem.W.handed_on rfl h)
section
theorem Mg(I:L2.Inv X ah σ H s)(p:Pk X.K M H d v)(r:RelV v u)
  (e:PySem.W.kitOne X.K (Ed d) c=some b) (h:∀tk,Q (.bool b) { s with toks:=tk}):wpAny (model X.prog X.w) A (call (.builtin "isinstance") [u,c]) Q E s:=by
 cases d with
 |non=>have q:=p.non;subst q;cases r;exact t0 PySem.W.kitx_none I.qF True.intro e (λz=>nomatch z) h
 |bl y=>have q:=p.bl;subst q;cases r;exact t0 PySem.W.kitx_bool I.qF True.intro e (λz=>nomatch z) h
 |int i=>have q:=p.int;subst q;obtain⟨t,rfl⟩:=r;exact t0 PySem.W.kitx_int I.qF True.intro e (λz=>nomatch z) h
 |str y=>have q:=p.str;subst q;obtain⟨t,rfl⟩:=r;exact t0 PySem.W.kitx_str I.qF True.intro e (λz=>nomatch z) h
 |tup l=>obtain⟨a,xs,rfl,ha,_⟩:=p.tup;cases r;obtain⟨its,_,⟨o,h1,h2,_⟩,_⟩:=I.tuple ha.sq;exact t0 PySem.W.kitx_tuple I.qF ⟨o,h1,h2⟩ e (λz=>nomatch z) h
 |lst l=>obtain⟨a,xs,rfl,ha,_⟩:=p.list;cases r;obtain⟨its,_,pl,_⟩:=I.list (bU.of ha);obtain⟨o,h1,h2,_⟩:=pl.isList;exact t0 B0 I.qF ⟨o,h1,h2⟩ e (λz=>nomatch z) h
 |fix l=>obtain⟨a,xs,rfl,ha,_⟩:=p.fix;cases r;obtain⟨its,_,pl,_⟩:=I.list ha.sq;obtain⟨o,h1,h2,_⟩:=pl.isList;exact t0 B0 I.qF ⟨o,h1,h2⟩ e (λz=>nomatch z) h
 |emp=>
  cases p with
  |of q=>
   cases q with
   |emp _ ha=>cases r;obtain⟨_,_,vs,_,o,es,ep,h1,h2,_⟩:=I.hok _ _ ha;exact t0 B1 I.qF ⟨o,h1,h2.1⟩ e (λz=>nomatch z) h
 |vG C=>
  cases p with
  |of q=>
   cases q with
   |vG k _ ha=>cases r;obtain⟨⟨o,h1,h2,h3,h4⟩,_⟩:=I.hok _ _ ha;exact t0 (qY k) I.qF ⟨o,h1,h2,h3,by rw[h4];trivial⟩ e (λz=>nomatch z) h
 |qB ks ds=>
  cases p with
  |of q=>
   cases q with
   |qB _ ha _ _=>cases r;obtain⟨_,_,vs,_,o,es,ep,h1,h2,_⟩:=I.hok _ _ ha;exact t0 B1 I.qF ⟨o,h1,h2.1⟩ e (λz=>nomatch z) h
theorem Ad:dz X (.builtin "isinstance") (λxs H Q=>∃x n M d b,xs=[x,.ty n]/\Pk X.K M H d x/\PySem.W.kitOne X.K (Ed d) (.type n)=some b/\Q (.bl b) H):=by intro ah s σ H xs us Q I r h;obtain⟨x,n,M,d,b,rfl,p,e,q⟩:=h;obtain⟨u,w',rfl,r1,r2⟩:=vals2 r;cases r2;exact Mg I p r1 e λtk=>⟨.bl b,H,I.tok tk,rfl,q⟩
theorem Mh(hK:z.K=X.K)(h:aq X z a g r1 g1)(hp:pk r1 g1=some d)(he:∀M H v,Pk X.K M H d v->PySem.W.kitOne X.K (Ed d) (.type n)=some b)
  (hg:Gl X "isinstance") (hm:X.mg "isinstance"=none) (hv:bootBuiltins "isinstance"=some (.builtin "isinstance")) (gT:Gl X T) (mT:X.mg T=none) (vT:bootBuiltins T=some (.type n)) (nT:T≠ "__name__") (dT:(T==("__debug__":Str))=false)
  (hs:starEach [a,.Name T pT] X.env=(false,eval a X.env)::starEach [.Name T pT] X.env):aq X z (.Call (.Name "isinstance" p) [a,.Name T pT] [] pos) g (.dat (.bl b)) g1:=by
 obtain⟨t,q,k⟩:=h;have Zn:PE X (.Name T pT) (tC (.ty n)):=vo gT mT vT rfl nT dT;refine⟨_,kG Ad hg hm hv (eK q (eK Zn oV) hs) ⋯ ⋯ hs,λσ As M H Q s kk=>k σ As M H _ s λv H' au M' s' st R=>?_⟩
 have p:=hK▸s'.pk (ao.refl _ _) R hp;exact⟨v,n,M',d,b,rfl,p,he _ _ _ p,kk _ H' au M' s' st (.bl b)⟩
end
inductive Fl where
 |nx |rt (r:R) |bk |ct
def nL(z:Z)(M:List Addr)(H:Hp)(E:Ends)(g':G):Fl->Prop
 |.nx=>∀σ' au M' H',S z g' σ' au M' H'->ao M H M' H'->E.nx σ' H'
 |.bk=>∀σ' au M' H',S z g' σ' au M' H'->ao M H M' H'->E.bk σ' H'
 |.ct=>∀σ' au M' H',S z g' σ' au M' H'->ao M H M' H'->E.ct σ' H'
 |.rt r=>∀v σ' au M' H',S z g' σ' au M' H'->ao M H M' H'->dX z g' σ' au M' H' r v->E.rt v H'
def gW(X:Cx)(z:Z)(st:Stmt)(g:G)(f:Fl)(g':G):Prop:=
 ∃t,PS X st t/\∀σ As M H E,S z g σ As M H->nL z M H E g' f->t E σ H
def cS(X:Cx)(z:Z)(qC:List Stmt)(g:G)(f:Fl)(g':G):Prop:=
 ∃t,qI X qC t/\∀σ As M H E,S z g σ As M H->nL z M H E g' f->t E σ H
section
variable{st:Stmt}
theorem nL.trans(st:ao M H M1 H1)(h:nL z M H E g' f):nL z M1 H1 E g' f:=by
 cases f with
 |nx=>exact λσ' au M' H' s' st'=>h σ' au M' H' s' (st.trans st')
 |bk=>exact λσ' au M' H' s' st'=>h σ' au M' H' s' (st.trans st')
 |ct=>exact λσ' au M' H' s' st'=>h σ' au M' H' s' (st.trans st')
 |rt r=>exact λv σ' au M' H' s' st' R=>h v σ' au M' H' s' (st.trans st') R
theorem Mi:cS X z [] g .nx g:=⟨_,Er,λσ As M H E s k=>k σ As M H s (ao.refl _ _)⟩
theorem Gk(h1:gW X z st g .nx g1)(h2:cS X z qC g1 f g2):cS X z (st::qC) g f g2:=by obtain⟨t1,q1,k1⟩:=h1;obtain⟨t2,q2,k2⟩:=h2;exact⟨_,fC q1 q2,λσ As M H E s k=>k1 σ As M H _ s λσ' au M' H' s' st'=>k2 σ' au M' H' E s' (k.trans st')⟩
theorem Mj(h1:gW X z st g (.rt r) g1):cS X z (st::qC) g (.rt r) g1:=by obtain⟨t1,q1,k1⟩:=h1;exact⟨_,fC q1 cN,λσ As M H E s k=>k1 σ As M H _ s k⟩
theorem Mk(h1:gW X z st g .bk g1):cS X z (st::qC) g .bk g1:=by obtain⟨t1,q1,k1⟩:=h1;exact⟨_,fC q1 cN,λσ As M H E s k=>k1 σ As M H _ s k⟩
theorem Ml(h1:gW X z st g .ct g1):cS X z (st::qC) g .ct g1:=by obtain⟨t1,q1,k1⟩:=h1;exact⟨_,fC q1 cN,λσ As M H E s k=>k1 σ As M H _ s k⟩
theorem Mm(h:aq X z e g r g1):gW X z (.Return (some e) pos) g (.rt r) g1:=by obtain⟨t,q,k⟩:=h;exact⟨_,Ka q,λσ As M H E s kk=>k σ As M H _ s λv H' au M' s' st R=>kk v σ au M' H' s' st R⟩
theorem Gm(h:aq X z e g r g1)(hs:swapsWith e none pos.line X.env=pure false):gW X z (.Expr e pos) g .nx g1:=by obtain⟨t,q,k⟩:=h;exact⟨_,Es q hs,λσ As M H E s kk=>k σ As M H _ s λv H' au M' s' st R=>kk σ au M' H' s' st⟩
theorem Jv(h:bV X z c g v g1)(h2:cS X z (if v then a else b) g1 f g2):gW X z (.If c a b pos) g f g2:=by
 obtain⟨t,q,k⟩:=h;obtain⟨t2,q2,k2⟩:=h2;cases v with
 |true=>exact⟨_,Jm q q2 cN,λσ As M H E s kk=>k σ As M H _ s λH' au M' s' st=>kK (k2 σ au M' H' E s' (kk.trans st))⟩
 |false=>exact⟨_,Jm q cN q2,λσ As M H E s kk=>k σ As M H _ s λH' au M' s' st=>qR (k2 σ au M' H' E s' (kk.trans st))⟩
theorem Gn(hN:X.N.Nodup)(hi:X.N[i]?=some x)(hx:Loc X.env.scope x)(h:aq X z e g (.dat d) g1)(hs:swapsWith e (some (.Name x pos')) pos.line X.env=pure false)(hf:X.fn x=true\/X.env.scope.names.lookup x=some .local)(hb:i∉z.bor) :
  gW X z (.Assign [.Name x pos'] e pos) g .nx (g1.set i (.dat d)):=by
 obtain⟨t,q,k⟩:=h;refine⟨_,zj hN hi hx q hs hf,λσ As M H E s kk=>k σ As M H _ s λv H' au M' s' st R=>?_⟩
 obtain⟨bf,s2⟩:=s'.gS (i:=i) hb R;exact kk _ bf M' H' s2 st
theorem Gp(hN:X.N.Nodup)(hi:X.N[i]?=some x)(hx:Loc X.env.scope x)(h:aq X z e g (.new l) g1)(hl:i<g1.length)(hs:swapsWith e (some (.Name x pos')) pos.line X.env=pure false)(hf:X.fn x=true\/X.env.scope.names.lookup x=some .local)(hb:i∉z.bor) :
  gW X z (.Assign [.Name x pos'] e pos) g .nx (g1.set i (.own l)):=by
 obtain⟨t,q,k⟩:=h;refine⟨_,zj hN hi hx q hs hf,λσ As M H E s kk=>k σ As M H _ s λv H' au M' s' st R=>?_⟩
 obtain⟨a,xs,rfl,hm,hA,h0,ha,rr⟩:=R;obtain⟨bf,s2⟩:=s'.pD hb hl hm hA h0 ha rr;exact kk _ bf M' H' s2 st
end
def Wn(X:Cx)(qC:List Stmt):TS:=λE σ H=>∃t,qI X qC t/\t E σ H
theorem vJ{X:Cx}{qC:List Stmt}:qI X qC (Wn X qC):=λah s σ H E I h=>let ⟨t,q,k⟩:=h;q ah s σ H E I k
section
theorem drop_cons{α:Type}{l:List α}{n:Nat}{a:α}(h:l[n]?=some a):l.drop n=a::l.drop (n+1):=by obtain⟨h1,h2⟩:=dE.mp h;rw[List.drop_eq_getElem_cons h1,h2]
end
noncomputable def cD(lo:Int)(n:Nat):List D:=(List.range n).map λ(k:Nat)=>D.int (lo+(k:Int))
section
theorem Af{lo:Int}{n k:Nat}(h:k<n):(cD lo n)[k]?=some (.int (lo+(k:Int))):=by unfold cD;rw[mP,List.getElem?_range h];rfl
theorem qZ{lo:Int}{n:Nat}:(cD lo n).length=n:=by unfold cD;simp
theorem xE(h:bW X z [a] g [.dat (.int j)] g1)(hg:Gl X "range")(hm:X.mg "range"=none)(hs:starEach [a] X.env=[(false,eval a X.env)])(h1 : -(2 ^ 62)<=j)(h2:j<2 ^ 62) :
  ∃wi,PI X tg (.Call (.Name "range" p) [a] [] rp) wi/\∀σ As M H (Q:It->Hp->Prop),S z g σ As M H->(∀H' au M',S z g1 σ au M' H'->ao M H M' H'->Q (Kl 0 j.toNat) H')->wi σ H Q:=by
 obtain⟨t,q,k⟩:=h;refine⟨_,wU hg hm q hs,λσ As M H Q s kk=>k σ As M H _ s λvs H' au M' s' st R=>?_⟩
 cases R with
 |dat r R=>cases R;cases r;exact⟨j,rfl,h1,h2,kk H' au M' s' st⟩
theorem xF(h:bW X z [a,b] g [.dat (.int c),.dat (.int j)] g1)(hg:Gl X "range")(hm:X.mg "range"=none)(hs:starEach [a,b] X.env=[(false,eval a X.env),(false,eval b X.env)])(hs2:starEach [b] X.env=[(false,eval b X.env)])
  (h1 : -(2 ^ 62)<=c/\c<2 ^ 62/\-(2 ^ 62)<=j/\j<2 ^ 62) {tg:Expr} :
  ∃wi,PI X tg (.Call (.Name "range" p) [a,b] [] rp) wi/\∀σ As M H (Q:It->Hp->Prop),S z g σ As M H->(∀H' au M',S z g1 σ au M' H'->ao M H M' H'->Q (Kl c (j - c).toNat) H')->wi σ H Q:=by
 obtain⟨t,q,k⟩:=h;refine⟨_,wV hg hm q hs hs2,λσ As M H Q s kk=>k σ As M H _ s λvs H' au M' s' st R=>?_⟩
 cases R with
 |dat r R=>cases R with |dat r2 R=>cases R;cases r;cases r2;exact⟨c,j,rfl,h1,kk H' au M' s' st⟩
end
section
theorem xG(hN:X.N[i]?=some x)(hv:Ea X.env.scope x)(hd:(x==("__debug__":Str))=false)(cM:(x==("__classdict__":Str))=false)(hg:g[i]?=some (.own l0))(h:bW X z [e] g [.dat d] g1)(nM:g1[i]?=some (.own l))(hl:l.length<16777216)
  (hbase:attributeBase (.Name x pn) "append" X.env (eval (.Name x pn) X.env)=eval (.Name x pn) X.env)
  (hfew:((backTo bM (starEach [e] X.env)).all (λx=>!x.1)&&(backToKw bM (keywordEach [] X.env)).all (λx=>x.1.isSome)
   && decide ([e].length+([]:List Keyword).length+(if ([]:List Keyword).isEmpty then 0 else 1)<30))=true)
  (hline:(eW.endLine==bM.line)=true) (hs:starEach [e] X.env=(false,eval e X.env)::starEach [] X.env):aq X z (.Call (.Attribute (.Name x pn) "append" eW) [e] [] bM) g (.dat .non) (g1.set i (.own (l++[d]))):=by
 obtain⟨t,q,k⟩:=h;refine⟨_,zF BF PySem.F.slot_list_append PySem.F.type_list_append nI (je hN hv hd cM) q hbase hfew hline hs rfl,λσ As M H Q s kk=>?_⟩
 obtain⟨a,xs,e1,e2,e3,e4⟩:=s.sl.at hg;refine⟨.ref a,e1,.inl ⟨rfl,xs,bU.of e3⟩,k σ As M H _ s λvs H' au M' s' st R=>?_⟩
 obtain⟨b,ys,f1,f2,f3,f4⟩:=s'.sl.at nM;rw[e1]at f1;injection f1 with f1;injection f1 with f1;injection f1 with f1;subst f1;cases R with
 |dat r R=>
  cases R;refine⟨a,ys,_,rfl,rfl,f3,by rw[<- f4.length,oC];exact hl,?_⟩
  obtain⟨s2,aM⟩:=s'.write nM e1 (f4.append (.cons r .nil));exact kk _ _ au M' s2 (st.trans aM) .non
end
section
theorem Gq(hN:X.N[i]?=some x)(hv:Ea X.env.scope x)(hd:(x==("__debug__":Str))=false)(cM:(x==("__classdict__":Str))=false)(h:aq X z e g (.dat d) g1)(nM:g1[i]?=some (.own l0))(h2:aq X z ix g1 (.dat (.int k)) g2)(P7:g2[i]?=some (.own l))(hj:vB l.length k=some j)
  (ha:∀v,assign (.Subscript (.Name x pn) ix dw) X.env v=(do
   let ov <- holding [v] (eval (.Name x pn) X.env)
   let iv <- holding [v,ov] (eval ix X.env)
   standAt dw
   holding [v,ov,iv] (setItem ov iv v)
   release [v,ov,iv] []))
  (hs:swapsWithSole [.Subscript (.Name x pn) ix dw] e pos.line X.env=pure false) (hw:swappedStores [.Subscript (.Name x pn) ix dw] e X.env=pure none)
  (h1:(assignEach [.Subscript (.Name x pn) ix dw] X.env).map (·.2)=[assign (.Subscript (.Name x pn) ix dw) X.env]) :
  gW X z (.Assign [.Subscript (.Name x pn) ix dw] e pos) g .nx (g2.set i (.own (l.set j d))):=by
 obtain⟨t,q,kk⟩:=h;obtain⟨t2,q2,k2⟩:=h2;refine⟨_,zh q (Ke (je hN hv hd cM) q2 set_list ha) hs hw h1,λσ As M H E s kE=>kk σ As M H _ s λv H1 aR M1 s1 dc R1=>?_⟩
 obtain⟨a,xs,e1,e2,e3,e4⟩:=s1.sl.at nM;refine⟨.ref a,e1,k2 σ aR M1 H1 _ s1 λw H2 bf M2 s2 aM R2=>?_⟩
 obtain⟨b,ys,f1,f2,f3,f4⟩:=s2.sl.at P7;rw[e1]at f1;injection f1 with f1;injection f1 with f1;injection f1 with f1;subst f1;have Zo:Rep z.K M2 H2 (.int k) w:=R2;cases Zo;refine⟨a,ys,k,j,rfl,rfl,f3,by rw[<- f4.length];exact hj,?_⟩
 obtain⟨s3,fW⟩:=s2.write P7 e1 (aC.set (Rep.stay aM R1) j f4);exact kE σ bf M2 _ s3 (dc.trans (aM.trans fW))
theorem aC.eraseIdx{K:Frag}{M:List Addr}{H:Hp}:∀{ds:List D}{vs:List V} (n:Nat),aC K M H ds vs->aC K M H (ds.eraseIdx n) (vs.eraseIdx n)
 |_,_,_,.nil=>.nil
 |_,_,0,.cons _ t=>t
 |_,_,n+1,.cons r t=>.cons r (aC.eraseIdx n t)
theorem Ag(hN:X.N[i]?=some x)(hv:Ea X.env.scope x)(hd:(x==("__debug__":Str))=false)(cM:(x==("__classdict__":Str))=false)(hg:g[i]?=some (.own l0))(h:bW X z [e] g [.dat (.int k)] g1)(nM:g1[i]?=some (.own l))(hk:vB l.length k=some j)(hy:l[j]?=some d)(hl:l.length<16777216)
  (hbase:attributeBase (.Name x pn) "pop" X.env (eval (.Name x pn) X.env)=eval (.Name x pn) X.env)
  (hfew:((backTo bM (starEach [e] X.env)).all (λx=>!x.1)&&(backToKw bM (keywordEach [] X.env)).all (λx=>x.1.isSome)
   && decide ([e].length+([]:List Keyword).length+(if ([]:List Keyword).isEmpty then 0 else 1)<30))=true)
  (hline:(eW.endLine==bM.line)=true) (hs:starEach [e] X.env=(false,eval e X.env)::starEach [] X.env):aq X z (.Call (.Attribute (.Name x pn) "pop" eW) [e] [] bM) g (.dat d) (g1.set i (.own (l.eraseIdx j))):=by
 obtain⟨t,q,k0⟩:=h;refine⟨_,zF BF PySem.F.slot_list_pop PySem.F.type_list_pop zH (je hN hv hd cM) q hbase hfew hline hs rfl,λσ As M H Q s kk=>?_⟩
 obtain⟨a,xs,e1,e2,e3,e4⟩:=s.sl.at hg;refine⟨.ref a,e1,.inl ⟨rfl,xs,bU.of e3⟩,k0 σ As M H _ s λvs H' au M' s' st R=>?_⟩
 obtain⟨b,ys,f1,f2,f3,f4⟩:=s'.sl.at nM;rw[e1]at f1;injection f1 with f1;injection f1 with f1;injection f1 with f1;subst f1;cases R with
 |dat r R=>
  cases R;cases r;obtain⟨h1,h2,h3,h4⟩:=oY hk;obtain⟨v,Zq,Zr⟩:=f4.get hy;obtain⟨s2,aM⟩:=s'.write nM e1 (aC.eraseIdx j f4);refine⟨a,ys,k,j,v,rfl,rfl,f3,by lia,by lia,by rw[<- f4.length];exact h1,Zq,?_⟩
  exact kk _ _ au M' s2 (st.trans aM) (Zr.stay aM)
end
noncomputable def bX:List R->G->Option G
 | [],_=>some []
 |.dat d::rs,g=>match bX rs g with |some gs=>some (.dat d::gs) |none=>none
 |.var i::rs,g=>match g[i]? with
  |some (.own l)=>match bX rs g with |some gs=>some (.own l::gs) |none=>none
  |_=>none
 |.new _::_,_=>none
noncomputable def vars:Nat->List R->List (Nat×Nat)
 |_,[]=>[]
 |j,.var i::rs=>(j,i)::vars (j+1) rs
 |j,.dat _::rs=>vars (j+1) rs
 |j,.new _::rs=>vars (j+1) rs
noncomputable def back:List (Nat×Nat)->G->G->Option G
 | [],_,g=>some g
 | (j,i)::ps,gc,g=>match gc[j]? with
  |some (.own l)=>back ps gc (g.set i (.own l))
  |_=>none
noncomputable def gX(bor:List Nat)(g':G):R->Option R
 |.dat d=>some (.dat d)
 |.new l=>some (.new l)
 |.var j=>if j∈bor then none else match g'[j]? with |some (.own l)=>some (.new l) |_=>none
noncomputable def adr(σ:Sg)(i:Nat):Addr:=match σ[i]? with |some (some (.ref a))=>a |_=>0
theorem gY(h:σ[i]?=some (some (.ref a))):adr σ i=a:=by unfold adr;rw[h]
def bJ(σ:Sg)(ps:List (Nat×Nat)):List (Nat×Addr):=ps.map λp=>(p.1,adr σ p.2)
noncomputable def dm(n:Nat)(gs:G):G:=gs++List.replicate (n - gs.length) .no
theorem Slots.append{K:Frag}{M:List Addr}{H:Hp}{g1 g2:G}{σ1 σ2:Sg}{A1 A2:List Addr}(p:Slots K M H g1 σ1 A1)(q:Slots K M H g2 σ2 A2):Slots K M H (g1++g2) (σ1++σ2) (A1++A2):=by
 induction p with
 |nil=>exact q
 |no p ih=>exact .no ih
 |dat r p ih=>exact .dat r ih
 |own e r p ih=>exact .own e r ih
theorem Slots.Ul{K:Frag}{M:List Addr}{H:Hp}:∀(n:Nat),Slots K M H (List.replicate n .no) (List.replicate n none) []
 | 0=>.nil
 |n+1=>by rw[oP,oP];exact .no (Slots.Ul n)
section
theorem Slots.vK{K:Frag}{g:G}{σ:Sg}{As:List Addr}{i j:Nat}{a:Addr}{l l':List D}(q:Slots K M H g σ As)(nd:As.Nodup)(e1:g[i]?=some (.own l))(e2:g[j]?=some (.own l'))(e3:σ[i]?=some (some (.ref a)))(e4:σ[j]?=some (some (.ref a))):i=j:=by
 induction q generalizing i j with
 |nil=>exact nomatch (show none=some (Slot.own l)from e1)
 |no q ih=>cases i with
  |zero=>exact nomatch (show some Slot.no=some (Slot.own l)from e1)
  |succ i=>cases j with
   |zero=>exact nomatch (show some Slot.no=some (Slot.own l')from e2)
   |succ j=>exact congrArg (· + 1) (ih nd e1 e2 e3 e4)
 |dat r q ih=>cases i with
  |zero=>exact nomatch (show some (Slot.dat _)=some (Slot.own l)from e1)
  |succ i=>cases j with
   |zero=>exact nomatch (show some (Slot.dat _)=some (Slot.own l')from e2)
   |succ j=>exact congrArg (· + 1) (ih nd e1 e2 e3 e4)
 |@own g σ As b xs ds h r q ih=>
  have no:∀{i:Nat}{l:List D},g[i]?=some (.own l)->σ[i]?=some (some (.ref a))->b=a->False:=λ{i l} e1 e3 e=>by
   obtain⟨c,xs,h1,h2,_⟩:=q.at e1;cases (show some (some (V.ref c))=some (some (V.ref a))from h1.symm.trans e3)
   exact (i3.mp nd).1 (e▸h2)
  cases i with
  |zero=>cases j with
   |zero=>rfl
   |succ j=>cases (show some (some (V.ref b))=some (some (V.ref a))from e3);exact (no e2 e4 rfl).elim
  |succ i=>cases j with
   |zero=>cases (show some (some (V.ref b))=some (some (V.ref a))from e4);exact (no e1 e3 rfl).elim
   |succ j=>exact congrArg (· + 1) (ih (i3.mp nd).2 e1 e2 e3 e4)
theorem kX(s:S z g σ As M H)(j:Nat)(q:gU z σ M H rs vs)(e:bX rs g=some gs) :
  gs.length=vs.length/\Slots z.K M H gs (vs.map some) ((bJ σ (vars j rs)).map (·.2))/\
  (∀p∈bJ σ (vars j rs),∃n l,p.1=j+n/\gs[n]?=some (.own l)/\vs[n]?=some (.ref p.2))/\
  (∀n l a,gs[n]?=some (.own l)->vs[n]?=some (.ref a)->(j+n,a)∈bJ σ (vars j rs))/\
  (∀p∈vars j rs,∃l a,g[p.2]?=some (.own l)/\σ[p.2]?=some (some (.ref a))/\a∈As):=by
 induction q generalizing gs j with
 |nil=>cases e;exact⟨rfl,.nil,(λp hp=>nomatch hp),(λn l a h=>by simp at h),(λp hp=>nomatch hp)⟩
 |@dat d v rs vs r q ih=>
  unfold bX at e;cases e2:bX rs g with
  |none=>rw[e2]at e;cases e
  |some gs=>
   rw[e2]at e;cases e;obtain⟨h1,h2,h3,h4,h5⟩:=ih (j+1) e2;refine⟨by simp[h1],.dat r h2,λp hp=>?_,λn l a e1 e3=>?_,h5⟩
   . obtain⟨n,l,q1,q2,q3⟩:=h3 p hp;exact⟨n+1,l,by lia,by simpa using q2,by simpa using q3⟩
   .
    cases n with
    |zero=>simp at e1
    |succ n=>
     have:=h4 n l a (by simpa using e1) (by simpa using e3)
     rw[show j+(n+1)=j+1+n by lia]
     exact this
 |@var i v rs vs r q ih=>
  unfold bX at e;split at e
  .
   rename_i l hg;cases e2:bX rs g with
   |none=>rw[e2]at e;cases e
   |some gs=>
    rw[e2]at e;cases e;obtain⟨h1,h2,h3,h4,h5⟩:=ih (j+1) e2;obtain⟨a,xs,f1,f2,f3,f4⟩:=s.sl.at hg;have ea:adr σ i=a:=gY f1;rw[r]at f1;injection f1 with f1;injection f1 with f1;subst f1;have el:bJ σ (vars j (.var i::rs))=(j,a)::bJ σ (vars (j+1) rs):=by show (j,adr σ i)::bJ σ (vars (j+1) rs)=_;rw[ea]
    rw[el];refine⟨by simp[h1],.own f3 f4 h2,λp hp=>?_,λn l' b e1 e3=>?_,λp hp=>?_⟩
    .
     rcases dS.mp hp with rfl |hp
     . exact⟨0,l,rfl,rfl,rfl⟩
     . obtain⟨n,l,q1,q2,q3⟩:=h3 p hp;exact⟨n+1,l,by lia,by simpa using q2,by simpa using q3⟩
    .
     cases n with
     |zero=>
      have e4:a=b:=by simpa using e3
      subst e4;exact dC
     |succ n=>
      have:=h4 n l' b (by simpa using e1) (by simpa using e3)
      rw[show j+(n+1)=j+1+n by lia]
      exact b0 _ this
    .
     rcases dS.mp (show p∈(j,i)::vars (j+1) rs from hp)with rfl |hp
     . exact⟨l,a,hg,r,f2⟩
     . exact h5 p hp
  . cases e
theorem nO{α β:Type}{f:α->β}:∀{l:List α},l.Nodup->(∀a∈l,∀b∈l,f a=f b->a=b)->(l.map f).Nodup
 | [],_,_=>wT
 |x::l,nd,h=>by
  rw[List.map_cons];refine i3.mpr ⟨λhm=>?_,nO (i3.mp nd).2 λa ha b hb=>h a (b0 _ ha) b (b0 _ hb)⟩
  obtain⟨y,hy,e⟩:=lS.mp hm;have:=h y (b0 _ hy) x dC e;exact (i3.mp nd).1 (this▸hy)
def rm(z:Z)(σ:Sg)(M:List Addr)(H:Hp)(rs:List R):Z:=⟨z.K,H,M,bJ σ (vars 0 rs),z.T⟩
theorem nP:(rm z σ M H rs).bor=(vars 0 rs).map (·.1):=by show (bJ σ (vars 0 rs)).map (·.1)=_;unfold bJ;rw[List.map_map];rfl
theorem S.enter(s:S z g σ As M H){rs:List R}{vs:List V}{gs:G}{N:List Str}(r:gU z σ M H rs vs)(e:bX rs g=some gs)(nd:((vars 0 rs).map (·.2)).Nodup) :
  S (rm z σ M H rs) (dm N.length gs) (start N vs) ((bJ σ (vars 0 rs)).map (·.2)) M H:=by
 obtain⟨h1,h2,h3,h4,h5⟩:=kX s 0 r e;have eB:(bJ σ (vars 0 rs)).map (·.2)=((vars 0 rs).map (·.2)).map (adr σ):=by unfold bJ;rw[List.map_map,List.map_map];rfl
 have mem:∀b∈(bJ σ (vars 0 rs)).map (·.2),b∈As:=λb hb=>by
  rw[eB]at hb;obtain⟨i,hi,e⟩:=lS.mp hb;obtain⟨p,hp,e'⟩:=lS.mp hi;obtain⟨l,a,q1,q2,q3⟩:=h5 p hp;subst e';rw[gY q2]at e;subst e;exact q3
 have pre:∀{n:Nat}{o:Slot},gs[n]?=some o->(dm N.length gs)[n]?=some o:=λ{n o} q=>by
  unfold dm;rw[dL (dE.mp q).1];exact q
 have Wo:∀(n:Nat) (l:List D),(dm N.length gs)[n]?=some (.own l)->gs[n]?=some (.own l):=λn l q=>by
  unfold dm at q;rcases y8 n gs.length with h |h
  . rw[dL h]at q;exact q
  . rw[eD h]at q;have:=mB q;rw[An]at this;exact absurd this.2 ⋯
 have st:∀{n:Nat}{v:V},vs[n]?=some v->(start N vs)[n]?=some (some v):=λ{n v} q=>by
  unfold L2.start;rw[dL (by rw[gL];exact (dE.mp q).1),mP,q]
  rfl
 have st':∀{n:Nat}{v:V},(start N vs)[n]?=some (some v)->vs[n]?=some v:=λ{n v} q=>by
  unfold L2.start at q;rcases y8 n vs.length with h |h
  .
   rw[dL (by rw[gL];exact h),mP]at q
   cases e:vs[n]? with
   |none=>rw[e]at q;cases q
   |some w=>rw[e]at q;injection q with q
  .
   rw[eD (by rw[gL];exact h)]at q
   have:=mB q;rw[An]at this;exact absurd this.2 ⋯
 refine⟨?_,?_,λa ha=>s.sub a (mem a ha),λn a l q1 q2=>.inl ?_,s.live,λb o e _ _=>e,λm hm=>hm,λm hm=>?_,λb hb=>s.sub b (mem b hb),λp hp=>?_,s.tab,λp hp=>s.mQ _ (s.tm p hp),s.tt⟩
 .
  have q:=h2.append (Slots.Ul (K:=z.K) (M:=M) (H:=H) (N.length - gs.length));rw[tP]at q;have e':start N vs=vs.map some++List.replicate (N.length - gs.length) none:=by unfold L2.start;rw[h1]
  rw[e'];exact q
 .
  rw[eB];refine nO nd λi hi j hj e=>?_
  obtain⟨p,hp,rfl⟩:=lS.mp hi;obtain⟨p',ug,rfl⟩:=lS.mp hj;obtain⟨l,a,q1,q2,q3⟩:=h5 p hp;obtain⟨l',a',K8,Jw,Um⟩:=h5 p' ug;rw[gY q2,gY Jw]at e;subst e;exact s.sl.vK s.nd q1 K8 q2 Jw
 . have hm:=h4 n l a (Wo n l q1) (st' q2);rw[BA]at hm;exact⟨u4 (f:=(·.1)) hm,u4 (f:=(·.2)) hm⟩
 . exact λe=>s.fresh e hm
 . obtain⟨n,l,q1,q2,q3⟩:=h3 p hp;rw[BA]at q1;rw[q1];exact⟨st q3,l,pre q2⟩
theorem Slots.transfer{K:Frag}{M M2:List Addr}{H H':Hp}(st:ao M H M2 H'){g g2:G}{σ:Sg}{As:List Addr}(q:Slots K M H g σ As)(hl:g2.length=g.length)
  (h1:∀(i:Nat) (l:List D) (a:Addr),g[i]?=some (.own l)->σ[i]?=some (some (.ref a))->∃l' xs',g2[i]?=some (.own l')/\H' a=some (.lst xs')/\aC K M2 H' l' xs')
  (h2:∀(i:Nat) (o:Slot),g[i]?=some o->(∀l,o≠.own l)->g2[i]?=some o):Slots K M2 H' g2 σ As:=by
 induction q generalizing g2 with
 |nil=>cases g2 with
  |nil=>exact .nil
  |cons a b=>cases hl
 |no q ih=>cases g2 with
  |nil=>cases hl
  |cons a b=>
   cases (show some a=some Slot.no from h2 0 .no rfl (λl z=>nomatch z))
   exact .no (ih (Bz hl) (λi l a e1 e2=>h1 (i+1) l a e1 e2) λi o e1 e2=>h2 (i+1) o e1 e2)
 |@dat g σ As v d r q ih=>cases g2 with
  |nil=>cases hl
  |cons a b=>
   cases (show some a=some (Slot.dat d)from h2 0 (.dat d) rfl (λl z=>nomatch z))
   exact .dat (r.stay st) (ih (Bz hl) (λi l a e1 e2=>h1 (i+1) l a e1 e2) λi o e1 e2=>h2 (i+1) o e1 e2)
 |@own g σ As a0 xs ds e0 r q ih=>cases g2 with
  |nil=>cases hl
  |cons a b=>
   obtain⟨l',xs',e1,e2,e3⟩:=h1 0 _ a0 rfl rfl;cases (show some a=some (Slot.own l')from e1)
   exact .own e2 e3 (ih (Bz hl) (λi l a e1 e2=>h1 (i+1) l a e1 e2) λi o e1 e2=>h2 (i+1) o e1 e2)
theorem nQ:∀{ps:List (Nat×Nat)}{g gO:G},back ps gc g=some gO->(ps.map (·.2)).Nodup->gO.length=g.length/\
  (∀i,i∉ps.map (·.2)->gO[i]?=g[i]?)/\∀p∈ps,p.2<g.length->∃l,gc[p.1]?=some (.own l)/\gO[p.2]?=some (.own l)
 | [],g,gO,e,_=>by cases e;exact⟨rfl,λ_ _=>rfl,λp hp=>nomatch hp⟩
 | (j,i)::ps,g,gO,e,nd=>by
  unfold back at e;split at e
  .
   rename_i l hg;obtain⟨h1,h2,h3⟩:=nQ e (i3.mp nd).2;refine⟨by rw[h1,tS],λk hk=>?_,λp hp iZ=>?_⟩
   .
    have n1:k∉ps.map (·.2):=λz=>hk (b0 _ z)
    have n2:i≠k:=λz=>hk (z▸dC)
    rw[h2 k n1,i4 n2]
   .
    rcases dS.mp hp with rfl |hp
    . refine⟨l,hg,?_⟩;have hlt':i<g.length:=iZ;rw[h2 i (i3.mp nd).1,i9 hlt']
    . exact h3 p hp (by rw[tS];exact iZ)
  . cases e
theorem S.leave(s:S z g σ As M H){rs:List R}{vs:List V}{gs gc gO:G}{σc:Sg}{Ac Mc:List Addr}{Hc:Hp}{r r':R}{v:V}(rw':gU z σ M H rs vs)(e:bX rs g=some gs)(nd:((vars 0 rs).map (·.2)).Nodup)
  (sc:S (rm z σ M H rs) gc σc Ac Mc Hc) (st:ao M H Mc Hc) (q:dX (rm z σ M H rs) gc σc Ac Mc Hc r v) (hb:back (vars 0 rs) gc g=some gO) (hr:gX ((vars 0 rs).map (·.1)) gc r=some r') :
  ∃M2,S z gO σ As M2 Hc/\ao M H M2 Hc/\dX z gO σ As M2 Hc r' v:=by
 obtain⟨h1,h2,h3,h4,h5⟩:=kX s 0 rw' e;obtain⟨b1,b2,b3⟩:=nQ hb nd;have hM:∀m∈M,m∈Mc:=sc.mQ;have core:∀M2:List Addr,(∀m∈M,m∈M2)->(∀m∈M2,m∈Mc)->ao M H M2 Hc->S z gO σ As M2 Hc:=by
  intro M2 m1 m2 aM;refine⟨s.sl.transfer aM b1 (λi l a e1 e2=>?_) (λi o e1 e2=>?_),s.nd,λa ha=>m1 a (s.sub a ha),λi a l e1 e2=>?_,λm hm=>sc.live m (m2 m hm),λb o e1 e2 et=>?_,λm hm=>m1 m (s.mQ m hm),s.m0,s.bm,λp hp=>⟨(s.kN p hp).1,?_⟩,sc.tab,s.tm,s.tt⟩
  .
   by_cases hi:i∈(vars 0 rs).map (·.2)
   .
    obtain⟨p,hp,rfl⟩:=lS.mp hi;obtain⟨l',q1,q2⟩:=b3 p hp (dE.mp e1).1;have hl:(p.1,adr σ p.2)∈bJ σ (vars 0 rs):=u4 (f:=λp:Nat×Nat=>(p.1,adr σ p.2)) hp
    obtain⟨c1,c2⟩:=sc.kN _ hl;obtain⟨a',xs,d1,d2,d3,d4⟩:=sc.sl.at q1;rw[c1]at d1;injection d1 with d1;injection d1 with d1;injection d1 with d1;rw[gY e2]at d1;subst d1;exact⟨l',xs,q2,d3,aC.stay (ao.less m2) d4⟩
   .
    obtain⟨a',xs,d1,d2,d3,d4⟩:=s.sl.at e1;rw[e2]at d1;injection d1 with d1;injection d1 with d1;injection d1 with d1;subst d1;refine⟨l,xs,by rw[b2 i hi];exact e1,sc.keep a _ d3 (λhB=>?_) (s.Rq d3),d4.stay aM⟩
    obtain⟨p,hp,ep⟩:=lS.mp (show a∈(bJ σ (vars 0 rs)).map (·.2)from hB);obtain⟨p',ug,rfl⟩:=lS.mp hp;obtain⟨l2,a2,q1,q2,q3⟩:=h5 p' ug;have qG:adr σ p'.2=a:=ep;rw[gY q2]at qG;subst qG;have:=s.sl.vK s.nd e1 q1 e2 q2;exact hi (this▸u4 (f:=(·.2)) ug)
  .
   refine (b2 i λhi=>?_).trans e1
   obtain⟨p,hp,rfl⟩:=lS.mp hi;obtain⟨l2,a2,q1,q2,q3⟩:=h5 p hp;rw[e1]at q1;injection q1 with q1;exact e2 l2 q1
  .
   by_cases hi:i∈(vars 0 rs).map (·.2)
   . obtain⟨p,hp,rfl⟩:=lS.mp hi;obtain⟨l2,a2,q1,q2,q3⟩:=h5 p hp;exact s.own p.2 a l2 q1 e2
   . rw[b2 i hi]at e1;exact s.own i a l e1 e2
  .
   have e3:=s.keep b o e1 e2 et;refine sc.keep b o e3 (λhB=>?_) et
   obtain⟨p,hp,ep⟩:=lS.mp (show b∈(bJ σ (vars 0 rs)).map (·.2)from hB);obtain⟨p',ug,rfl⟩:=lS.mp hp;obtain⟨l2,a2,q1,q2,q3⟩:=h5 p' ug;have qG:adr σ p'.2=b:=ep;rw[gY q2]at qG;subst qG;rcases s.own p'.2 a2 l2 q1 q2 with w |w
   . exact e2 w.2
   . rw[w]at e1;cases e1
  .
   by_cases hi:p.1∈(vars 0 rs).map (·.2)
   . obtain⟨p',ug,e'⟩:=lS.mp hi;have e'':p'.2=p.1:=e';obtain⟨l2,a2,q1,q2,q3⟩:=h5 p' ug;obtain⟨l',K8,Jw⟩:=b3 p' ug (dE.mp q1).1;exact⟨l',by rw[<- e''];exact Jw⟩
   . rw[b2 p.1 hi];exact (s.kN p hp).2
 have new:∀(a:Addr) (xs:List V) (l:List D),v=.ref a->a∈Mc->H a=none->Hc a=some (.lst xs)->aC z.K Mc Hc l xs->∃M2,S z gO σ As M2 Hc/\ao M H M2 Hc/\dX z gO σ As M2 Hc (.new l) v:=by
  intro a xs l ev hm h0 hx rr;have m2:∀m∈a::M,m∈Mc:=λm hm'=>(dS.mp hm').elim (λe=>e▸hm) (hM m)
  have aM:ao M H (a::M) Hc:=st.trans (ao.less m2);refine⟨a::M,core _ (λm hm'=>b0 _ hm') m2 aM,aM,a,xs,ev,dC,λhA=>?_,s.bQ h0,hx,rr.stay (ao.less m2)⟩
  exact s.fresh h0 (s.sub a hA)
 cases r with
 |dat d=>cases hr;have aM:ao M H M Hc:=st.trans (ao.less hM);exact⟨M,core M (λm h=>h) hM aM,aM,Rep.stay (ao.less hM) q⟩
 |new l=>cases hr;obtain⟨a,xs,rfl,c1,c2,c3,c4,c5⟩:=q;exact new a xs l rfl c1 c3 c4 c5
 |var j=>
  obtain⟨l,q1,q2⟩:=q;have hr:(if j∈(vars 0 rs).map (·.1)then none else match gc[j]? with |some (.own l)=>some (R.new l) |_=>none)=some r':=hr
  split at hr
  . cases hr
  .
   rename_i hj;rw[q1]at hr;cases hr;obtain⟨a,xs,d1,d2,d3,d4⟩:=sc.sl.at q1;rw[q2]at d1;injection d1 with d1;injection d1 with d1;subst d1;refine new a xs l rfl (sc.sub a d2) ?_ d3 d4;rcases sc.own j a l q1 q2 with w |w
   . have w':=w.1;rw[nP]at w';exact absurd w' hj
   . exact w
end
theorem gU.length(q:gU z σ M H rs vs):vs.length=rs.length:=by
 induction q with
 |nil=>rfl
 |dat r q ih=>exact congrArg (· + 1) ih
 |var r q ih=>exact congrArg (· + 1) ih
def Mp(K:Frag)(N:List Str)(np:Nat)(run:List Nat->G->R->G->Prop):Sp:=λvs H Q _=>
 vs.length=np/\∃(z:Z) (g g':G) (As M:List Addr) (r:R),z.K=K/\S z g (start N vs) As M H/\run z.bor g r g'/\
  ∀v σ' au M' H',S z g' σ' au M' H'->ao M H M' H'->dX z g' σ' au M' H' r v->Q v H'
section
variable{run:List Nat->G->R->G->Prop}
theorem vL(F:mH X.prog X.w X.K X.mg X.base Ec k f fd ps (Mp X.K N ps.length run))(hK:z.K=X.K)(hr:dR k X.A)(hg:Gl X x)(hm:X.mg x=some (.ref f))(hk:PySem.W.keepIn X.K (.ref f)=true)(hb:Binds X.K fd ps [])
  (ha:bW X z (e::es) g rs g1) (aF:rs.length=ps.length) (hl:bX rs g1=some gs) (nd:((vars 0 rs).map (·.2)).Nodup) (hrun:run ((vars 0 rs).map (·.1)) (dm N.length gs) r gc) (RD:back (vars 0 rs) gc g1=some gO) (ho:gX ((vars 0 rs).map (·.1)) gc r=some r')
  (wK:(x==("__debug__":Str))=false) (he:starEach (e::es) X.env=(false,eval e X.env)::starEach es X.env) (iA:(backTo pos (starEach es X.env)).any (·.1)=false) :
  aq X z (.Call (.Name x p) (e::es) [] pos) g r' gO:=by
 obtain⟨t,q,kk⟩:=ha;refine⟨_,Fc F hr hg hm hk hb .nil Rj q wK he iA,λσ As M H Q s kq=>kk σ As M H _ s λvs H1 aR M1 s1 dc R1=>?_⟩
 have hv:vs.length=rs.length:=R1.length;have ee:=s1.enter (N:=N) R1 hl nd;refine⟨by rw[tP,hv];exact aF,rm z σ M1 H1 rs,dm N.length gs,gc,_,M1,r,hK,by rw[tP];exact ee,by rw[nP];exact hrun,λv σ' au M' H' s' st' R'=>?_⟩
 obtain⟨M2,s2,aM,R2⟩:=s1.leave R1 hl nd s' st' R' RD ho;exact kq v H' aR M2 s2 (dc.trans aM) R2
theorem Jx{P:Program}{w:World}{K:Frag}{mg:Str->Option Value}{base:Heap}{qual:Str}{st:Stmt}(F:Rk K x qual st f fd)(Sc:dB N ps (aJ st))
  (h:∀(dG:Value) (A:Around) (outer:List Env) (s:Shared) (H:Hp) (E:XK),PySem.W.codeIn K dG qual=true->dR k (A.deeper (envOfC qual (aJ st) s⁻¹ f dG))->
   ∀(z:Z) (g:G) (r:R) (g':G),z.K=K->run z.bor g r g'->∃fl,cS (qN Ec P w K mg base N qual (aJ st) f dG A outer s H E).P1 z (bx st) g fl g'/\(fl=.rt r\/(fl=.nx/\r=.dat .non))) :
  mH P w K mg base Ec (k+1) f fd ps (Mp K N ps.length run):=by
 obtain⟨oc,od,kV,doc,pm,an,dG,ct,osl,rfl,lk,cM⟩:=F.ex;refine Q8 lk cM Sc (λvs H Q E q=>q.1) λA outer s H vs Q E hr ⟨_,z,g,g',As,M,r,hK,hs,hrun,hQ⟩=>?_
 obtain⟨fl,⟨t,q,kk⟩,hfl⟩:=h dG A outer s H E cM hr z g r g' hK hrun;refine⟨t,q.P1,kk _ As M H _ hs ?_⟩;rcases hfl with rfl |⟨rfl,rfl⟩
 . exact λv σ' au M' H' s' st' R'=>hQ v σ' au M' H' s' st' R'
 . exact λσ' au M' H' s' st'=>hQ .non σ' au M' H' s' st' .non
end
inductive Tg where
 |nm (i:Nat) |tp (is:List Nat)
noncomputable def jm:List Nat->List D->G->G
 |i::is,d::ds,g=>jm is ds (g.set i (.dat d))
 | [],_,g=>g
 |_::_,[],g=>g
noncomputable def Tg.ix:Tg->List Nat
 |.nm i=>[i]
 |.tp is=>is
def Tg.set:Tg->D->G->Option G
 |.nm i,d,g=>some (g.set i (.dat d))
 |.tp is,.tup ds,g=>if ds.length=is.length then some (jm is ds g)else none
 |.tp is,.lst ds,g=>if ds.length=is.length then some (jm is ds g)else none
 |.tp _,_,_=>none
def vM(is:List Nat)(σ σ':Sg):Prop:=σ'.length=σ.length/\∀j,j∉is->σ'[j]?=σ[j]?
theorem vM.refl(is:List Nat)(σ:Sg):vM is σ σ:=⟨rfl,λ_ _=>rfl⟩
theorem vM.trans{is:List Nat}{σ σ1 σ2:Sg}(a:vM is σ σ1)(b:vM is σ1 σ2):vM is σ σ2:=⟨b.1.trans a.1,λj h=>(b.2 j h).trans (a.2 j h)⟩
theorem vM.mono(h:∀i∈is,i∈js)(a:vM is σ σ'):vM js σ σ':=⟨a.1,λj hj=>a.2 j λz=>hj (h j z)⟩
def kY(X:Cx)(z:Z)(tg:Expr)(T:Tg):Prop:=∃t,PG X tg t/\∀d g g',T.set d g=some g'->∀v σ As M H (Q:Sg->Hp->Prop),S z g σ As M H->Rep z.K M H d v->(∀σ' au,S z g' σ' au M H->vM T.ix σ σ'->Q σ' H)->t v σ H Q
structure Mq(X:Cx)(x:Str)(i:Nat):Prop where
 nd:X.N.Nodup
 ix:X.N[i]?=some x
 lc:Loc X.env.scope x
 fn:X.fn x=true\/X.env.scope.names.lookup x=some .local
section
theorem RJ(h:Mq X x i)(hb:i∉z.bor):kY X z (.Name x pos) (.nm i):=
 ⟨_,vp h.nd h.ix h.lc h.fn,λd g g' e v σ As M H Q s r k=>by
  cases e;obtain⟨au,s'⟩:=s.gS (i:=i) hb r;exact k _ au s' ⟨by rw[tS],λj hj=>by rw[i4 (λe=>hj (by rw[<- e];exact gN.mpr rfl))]⟩⟩
inductive iL(X:Cx):List Expr->List Nat->Prop
 |nil:iL X [] []
 |cons {x:Str}{p:Pos}{i:Nat}{es:List Expr}{is:List Nat}:Mq X x i->iL X es is->iL X (.Name x p::es) (i::is)
theorem iL.plain(h:iL X es is):(assignEach es X.env).length=is.length/\(assignEach es X.env).findIdx? (·.1)=none:=by
 induction h with
 |nil=>exact⟨rfl,rfl⟩
 |cons _ _ ih=>
  refine⟨?_,?_⟩
  . show (assignEach _ X.env).length+1=_;rw[ih.1];rfl
  . show List.findIdx? _ ((false,assign _ X.env)::assignEach _ X.env)=none;rw[List.findIdx?_cons,ih.2];rfl
theorem iL.Zt(h:iL X es is)(hb:∀i∈is,i∉z.bor):∃t,P4 X es t/\∀ds vs g σ As M H (Q:Sg->Hp->Prop),ds.length=is.length->S z g σ As M H->aC z.K M H ds vs->(∀σ' au,S z (jm is ds g) σ' au M H->vM is σ σ'->Q σ' H)->t vs σ H Q:=by
 induction h with
 |nil=>
  refine⟨_,Et,λds vs g σ As M H Q hl s r k=>?_⟩
  cases r with
  |nil=>exact⟨rfl,k σ As s (vM.refl _ _)⟩
  |cons _ _=>simp at hl
 |@cons x p i es is hn hs ih=>
  obtain⟨t,q,kk⟩:=ih λj hj=>hb j (b0 _ hj)
  refine⟨_,zg (vp hn.nd hn.ix hn.lc hn.fn) q rfl,λds vs g σ As M H Q hl s r k=>?_⟩
  cases r with
  |nil=>simp at hl
  |@cons d ds v vs r rs=>
   obtain⟨aR,s1⟩:=s.gS (i:=i) (hb i dC) r;refine⟨v,vs,rfl,kk ds vs _ _ aR M H Q (by simpa using hl) s1 rs λσ' au s' a=>k σ' au s' ?_⟩
   refine vM.trans ⟨by rw[tS],λj hj=>?_⟩ (a.mono λj hj=>b0 _ hj)
   rw[i4 (λe=>hj (by rw[<- e];exact dC))]
theorem uh{prog:Program}{w:World}{A:Around}{E:Value->Shared->Prop}{it l:Addr}{xs:Array Value}(ne:l≠it)(n:Nat):∀(i:Nat) (s:Shared) (Q:List Value->Shared->Prop),s.heap.IsListIter it l i->s.heap.IsList l xs->i+n=xs.size->
  (∀h',h'.IsListIter it l xs.size->Heap.SameBut it s.heap h'->Q (xs.toList.drop i) { s with heap:=h'})->wpAny (model prog w) A (draw (.ref it) n) Q E s:=by
 induction n with
 |zero=>
  intro i s Q hit _ hi k;have e:xs.toList.drop i=[]:=List.drop_eq_nil_of_le (by rw[h9];lia)
  have q:=k s.heap (by rw[<- hi];exact hit) (Heap.SameBut.refl ..)
  rw[e]at q;exact bP q
 |succ n ih=>
  intro i s Q hit hl hi k;have iZ:i<xs.size:=by lia
  refine aS (wpAny_pyNext_list_item hit hl (x:=xs[i]) (by simp[iZ]) λh1 b1 c1=>?_)
  refine aS (i7 (ih (i+1) _ _ b1 (hl.extBut c1.extBut ne) ⋯ λh2 b2 c2=>bP ?_))
  have q:=k h2 b2 (c1.trans c2);rw[List.drop_eq_getElem_cons (by rw[h9];exact iZ)]at q
  exact q
theorem rq{prog:Program}{w:World}{A:Around}{E:Value->Shared->Prop}{s:Shared}{l:Addr}{xs:Array Value}{Q:List Value->Shared->Prop}(hh:A.handled=none)(hl:s.heap.IsList l xs)
  (k:∀h',Heap.ExtBut s⁻¹ s.heap h'->Q xs.toList { s with heap:=h'}):wpAny (model prog w) A (unpackItems (.ref l) xs.size none) Q E s:=by
 have ne:l≠s⁻¹:=by obtain⟨o,ho,_⟩:=hl;exact kA (eP ho)
 unfold unpackItems;refine aS ?_;unfold notIterableAtAll;refine aS (wpAny_specialOf hl.typeIs slot_list_iter.lookup ?_);refine bP ?_;simp only[fA,CB];refine aS (i7 (wpAny_pyIter_list hl ?_));refine aS (i7 (uh ne xs.size 0 _ _ ⟨_,eC _ rfl,rfl,rfl⟩ (hl.push _) (BA _) λh1 b1 c1=>?_))
 rw[List.drop_zero,fI ⋯];refine aS (i7 (wpAny_pyNext_list_end hh b1 ((hl.push _).extBut c1.extBut ne) ⋯ λh2 e2=>?_))
 simp only[Option.isSome_none,fA,CB];exact bP (k h2 λb o nb e=>e2 b o nb (c1.extBut b o nb (a9 _ e)))
def Wq(K:Frag)(n:Nat)(t:Jo):TG:=λv σ H Q=>∃a xs,v=.ref a/\(eZ K H a xs\/bU K H a xs)/\xs.length=n/\t xs σ H Q
theorem Mr{es:List Expr}{k:Nat}{t:Jo}{n:Nat}(hc:X.calm=true)(h:P4 X es t)(hn:(assignEach es X.env).length=n)(dH:(assignEach es X.env).findIdx? (·.1)=none):PG X (.Tuple es k pos) (Wq X.K n t):=by
 intro ah s σ H v u Q I r hw;obtain⟨a,xs,e1,hq,hl,hw⟩:=hw;rcases hq with hq |hq
 . exact Kd hc h hn dH ah s σ H v u Q I r ⟨a,xs,e1,hq,hl,hw⟩
 .
  subst e1;cases r;obtain⟨its,rv,pl,hz⟩:=I.list hq;rw[assign_Tuple];refine aS (BB ?_);unfold unpack;rw[dH,show (assignEach es X.env).length=its.toArray.size by rw[hn,<- hl,rv.length,dA]]
  refine aS (i7 (rq (I.ok.hd hc) pl.isList λh' hx=>?_))
  have I1:L2.Inv X ah σ H { s with heap:=h'}:=I.kept (t':=s.toks) λb o e=>hx b o (kA (eP e)) e
  exact h ah _ σ H xs _ Q I1 (by simpa using rv) hw
theorem RK(hc:X.calm=true)(hK:z.K=X.K)(h:iL X es is)(hb:∀i∈is,i∉z.bor):kY X z (.Tuple es k pos) (.tp is):=by
 obtain⟨t,q,kk⟩:=h.Zt (z:=z) hb;refine⟨_,Mr (n:=is.length) hc q h.plain.1 h.plain.2,λd g g' e v σ As M H Q s r k=>?_⟩
 cases d with
 |tup ds=>
  have e:(if ds.length=is.length then some (jm is ds g)else none)=some g':=e
  by_cases hl:ds.length=is.length
  .
   rw[fN hl]at e;cases e;cases r with
   |@tup _ a xs ha rr=>exact⟨a,xs,rfl,.inl (hK▸ha.sq),by rw[<- rr.length];exact hl,kk ds xs g σ As M H Q hl s rr k⟩
  . rw[fI hl]at e;cases e
 |lst ds=>
  have e:(if ds.length=is.length then some (jm is ds g)else none)=some g':=e
  by_cases hl:ds.length=is.length
  .
   rw[fN hl]at e;cases e;cases r with
   |@lst _ a xs ha rr=>exact⟨a,xs,rfl,.inr (bU.of ha.2),by rw[<- rr.length];exact hl,kk ds xs g σ As M H Q hl s rr k⟩
  . rw[fI hl]at e;cases e
 |_=>cases e
def Jt(J:It)(items:List D)(K:Frag)(M1:List Addr)(H1:Hp):Prop:=
 ∀M2 H2,ao M1 H1 M2 H2->(∀n d,items[n]?=some d->J.go n H2/\∀x H',J.Ua n H2 x H'->∀(z:Z) g σ As,z.K=K->S z g σ As M2 H2->S z g σ As M2 H'/\ao M2 H2 M2 H'/\Rep K M2 H' d x)/\J.stop items.length H2
def fc(X:Cx)(z:Z)(tg iter:Expr)(g:G)(items:List D)(g1:G):Prop:=
 ∃wi,PI X tg iter wi/\∀σ As M H (R:It->Hp->Prop),S z g σ As M H->(∀J H' au M',S z g1 σ au M' H'->ao M H M' H'->Jt J items z.K M' H'->R J H')->wi σ H R
theorem Ms(hK:z.K=X.K)(h:aq X z iter g (.dat (.tup l)) g1):fc X z tg iter g l g1:=by
 obtain⟨t,q,k⟩:=h;refine⟨_,Km q,λσ As M H R s kk=>k σ As M H _ s λv H1 aR M1 s1 dc r=>?_⟩
 have r':Rep z.K M1 H1 (.tup l) v:=r;cases r' with
 |@tup _ a xs ha rr=>
  refine⟨a,rfl,⟨xs,hK▸ha.sq⟩,kk _ H1 aR M1 s1 dc λM2 H2 aM=>?_⟩
  have r2:=Rep.stay aM (Rep.tup ha rr);have ha2:TupAt z.K M2 H2 a xs:=by
   rcases ha with ⟨na,hr⟩ |hk
   . exact .inl (aM.rd na hr)
   . exact .inr hk
  have Jy:=rr.stay aM;refine⟨λn d hd=>?_,xs,hK▸ha2.sq,by rw[rr.length];exact eA _⟩
  obtain⟨x,e1,e2⟩:=Jy.get hd;refine⟨⟨xs,x,hK▸ha2.sq,e1⟩,λy H' hy z' g' σ' au _ s'=>?_⟩
  obtain⟨rfl,hy⟩:=hy;have:=hy xs (hK▸ha2.sq);rw[e1]at this;cases this;exact⟨s',ao.refl _ _,e2⟩
theorem Mt(h:aq X z iter g (.dat (.lst l)) g1):fc X z tg iter g l g1:=by
 obtain⟨t,q,k⟩:=h;refine⟨_,vt q,λσ As M H R s kk=>k σ As M H _ s λv H1 aR M1 s1 dc r=>?_⟩
 have r':Rep z.K M1 H1 (.lst l) v:=r;cases r' with
 |@lst _ a xs ha rr=>
  refine⟨a,rfl,⟨xs,bU.of ha.2⟩,kk _ H1 aR M1 s1 dc λM2 H2 aM=>?_⟩
  have ha2:=(aM _ _ ha.2 ha.1).1;have Jy:=rr.stay aM;refine⟨λn d hd=>?_,xs,bU.of ha2,by rw[rr.length];exact eA _⟩
  obtain⟨x,e1,e2⟩:=Jy.get hd;refine⟨⟨xs,x,bU.of ha2,e1⟩,λy H' hy z' g' σ' au _ s'=>?_⟩
  obtain⟨rfl,hy⟩:=hy;have:=hy xs (bU.of ha2);rw[e1]at this;cases this;exact⟨s',ao.refl _ _,e2⟩
theorem Mu(hK:z.K=X.K)(h:aq X z iter g (.dat (.fix l)) g1):fc X z tg iter g l g1:=by
 obtain⟨t,q,k⟩:=h;refine⟨_,vt q,λσ As M H R s kk=>k σ As M H _ s λv H1 aR M1 s1 dc r=>?_⟩
 have r':Rep z.K M1 H1 (.fix l) v:=r;cases r' with
 |@fix _ a xs ha rr=>
  refine⟨a,rfl,⟨xs,hK▸ha.sq⟩,kk _ H1 aR M1 s1 dc λM2 H2 aM=>?_⟩
  have ha2:kM z.K M2 H2 a xs:=by
   rcases ha with ⟨na,o,hr⟩ |hk
   . exact .inl ⟨(aM _ _ hr na).2,o,(aM _ _ hr na).1⟩
   . exact .inr hk
  have Jy:=rr.stay aM;refine⟨λn d hd=>?_,xs,hK▸ha2.sq,by rw[rr.length];exact eA _⟩
  obtain⟨x,e1,e2⟩:=Jy.get hd;refine⟨⟨xs,x,hK▸ha2.sq,e1⟩,λy H' hy z' g' σ' au _ s'=>?_⟩
  obtain⟨rfl,hy⟩:=hy;have:=hy xs (hK▸ha2.sq);rw[e1]at this;cases this;exact⟨s',ao.refl _ _,e2⟩
theorem Ah{lo:Int}{n:Nat}{K:Frag}{M:List Addr}{H:Hp}:Jt (Kl lo n) (cD lo n) K M H:=λM2 H2 _=>by
 refine⟨λk d hd=>?_,?_⟩
 .
  have hk:k<n:=by have:=(dE.mp hd).1;rw[qZ]at this;exact this
  rw[Af hk]at hd;cases hd;refine⟨hk,λx H' hx z' g' σ' au _ s'=>?_⟩
  obtain⟨rfl,rfl⟩:=hx;exact⟨s',ao.refl _ _,.int _⟩
 . show n<=(cD lo n).length;rw[qZ];exact eA _
theorem Gr(h:bW X z [a] g [.dat (.int j)] g1)(hg:Gl X "range")(hm:X.mg "range"=none)(hs:starEach [a] X.env=[(false,eval a X.env)])(h1 : -(2 ^ 62)<=j)(h2:j<2 ^ 62) :
  fc X z tg (.Call (.Name "range" p) [a] [] rp) g (cD 0 j.toNat) g1:=by
 obtain⟨wi,q,k⟩:=xE (p:=p) (rp:=rp) h hg hm hs h1 h2 (tg:=tg);exact⟨wi,q,λσ As M H R s kk=>k σ As M H _ s λH' au M' s' st=>kk _ H' au M' s' st Ah⟩
theorem Gs(h:bW X z [a,b] g [.dat (.int c),.dat (.int j)] g1)(hg:Gl X "range")(hm:X.mg "range"=none)(hs:starEach [a,b] X.env=[(false,eval a X.env),(false,eval b X.env)])(hs2:starEach [b] X.env=[(false,eval b X.env)])
  (h1 : -(2 ^ 62)<=c/\c<2 ^ 62/\-(2 ^ 62)<=j/\j<2 ^ 62):fc X z tg (.Call (.Name "range" p) [a,b] [] rp) g (cD c (j - c).toNat) g1:=by
 obtain⟨wi,q,k⟩:=xF (p:=p) (rp:=rp) h hg hm hs hs2 h1 (tg:=tg);exact⟨wi,q,λσ As M H R s kk=>k σ As M H _ s λH' au M' s' st=>kk _ H' au M' s' st Ah⟩
inductive cT(X:Cx)(z:Z)(body:List Stmt)(T:Tg):List D->G->Fl->G->Prop
 |nil {g:G}:cT X z body T [] g .nx g
 |next {d:D}{l:List D}{g g0 g1 g2:G}{f:Fl}:T.set d g=some g0->cS X z body g0 .nx g1->cT X z body T l g1 f g2->cT X z body T (d::l) g f g2
 |cont {d:D}{l:List D}{g g0 g1 g2:G}{f:Fl}:T.set d g=some g0->cS X z body g0 .ct g1->cT X z body T l g1 f g2->cT X z body T (d::l) g f g2
 |brk {d:D}{l:List D}{g g0 g1:G}:T.set d g=some g0->cS X z body g0 .bk g1->cT X z body T (d::l) g .nx g1
 |ret {d:D}{l:List D}{g g0 g1:G}{r:R}:T.set d g=some g0->cS X z body g0 (.rt r) g1->cT X z body T (d::l) g (.rt r) g1
theorem Mv(hp:PassesOwn (model X.prog X.w) X.A X.env X.xe)(hc:X.calm=true)(hw:fc X z tg iter g items g1)(ht:kY X z tg T)(hb:cT X z body T items g1 f g')(hs:∀y,foldedSetIterable iter X.env y=pure y) :
  gW X z (.For tg iter body [] pos) g f g':=by
 obtain⟨wi,q,k⟩:=hw;obtain⟨t,qt,kt⟩:=ht;refine⟨_,Ko hp hc q qt vJ hs,λσ As M H E s kk=>k σ As M H _ s λJ H1 aR M1 s1 dc hJ=>?_⟩
 refine⟨λi m σ2 H2=>i+m=items.length/\∃g2 bf M2,S z g2 σ2 bf M2 H2/\ao M1 H1 M2 H2/\cT X z body T (items.drop i) g2 f g',⟨items.length,by lia,g1,aR,M1,s1,ao.refl _ _,by simpa using hb⟩,?_⟩
 rintro i m σ2 H2 ⟨XT,g2,bf,M2,s2,aM,lo⟩;obtain⟨hgo,hstop⟩:=hJ M2 H2 aM;cases e:items[i]? with
 |none=>
  have hi:i=items.length:=by have:=AB.mp e;lia
  subst hi;rw[List.drop_length]at lo;refine .inl ⟨hstop,?_⟩;cases lo;exact kk σ2 bf M2 H2 s2 (dc.trans aM)
 |some d=>
  obtain⟨go,yl⟩:=hgo i d e;rw[drop_cons e]at lo;have hi:i<items.length:=(dE.mp e).1;refine .inr ⟨go,λσ' H'=>∃g3 jH M3,S z g3 σ' jH M3 H'/\ao M1 H1 M3 H'/\cT X z body T (items.drop (i+1)) g3 f g',λσ' H' ⟨g3,jH,M3,w1,w2,w3⟩=>⟨m - 1,by lia,by lia,g3,jH,M3,w1,w2,w3⟩,λx H' hx=>?_⟩
  obtain⟨s3,fW,rx⟩:=yl x H' hx z g2 σ2 bf rfl s2;have XX:=(kk.trans dc).trans (aM.trans fW);have RL:=aM.trans fW;cases lo with
  |next e0 b h=>
   refine kt d g2 _ e0 x σ2 bf M2 H' _ s3 rx λσ' au s' _=>?_
   obtain⟨t,q,kb⟩:=b;exact⟨t,q,kb _ au M2 H' _ s' λσ4 mR M4 H4 s4 um=>⟨_,mR,M4,s4,RL.trans um,h⟩⟩
  |cont e0 b h=>
   refine kt d g2 _ e0 x σ2 bf M2 H' _ s3 rx λσ' au s' _=>?_
   obtain⟨t,q,kb⟩:=b;exact⟨t,q,kb _ au M2 H' _ s' λσ4 mR M4 H4 s4 um=>⟨_,mR,M4,s4,RL.trans um,h⟩⟩
  |brk e0 b=>
   refine kt d g2 _ e0 x σ2 bf M2 H' _ s3 rx λσ' au s' _=>?_
   obtain⟨t,q,kb⟩:=b;exact⟨t,q,kb _ au M2 H' _ s' λσ4 mR M4 H4 s4 um=>XX σ4 mR M4 H4 s4 um⟩
  |ret e0 b=>
   refine kt d g2 _ e0 x σ2 bf M2 H' _ s3 rx λσ' au s' _=>?_
   obtain⟨t,q,kb⟩:=b;exact⟨t,q,kb _ au M2 H' _ s' λv σ4 mR M4 H4 s4 um R=>XX v σ4 mR M4 H4 s4 um R⟩
end
noncomputable def gC(k:Nat)(g:G):G:=g++(List.replicate k .no++[.own []])
def gI(X:Cx)(z:Z)(ifs:List Expr)(g:G)(b:Bool)(g':G):Prop:=
 ∃t,o9 X ifs t/\∀σ As M H (Q:Bool->Hp->Prop),S z g σ As M H->(∀H' au M',S z g' σ au M' H'->ao M H M' H'->Q b H')->t σ H Q
theorem Gu:gI X z [] g true g:=⟨_,qT,λσ As M H Q s k=>k H As M s (ao.refl _ _)⟩
theorem Gv(h:bV X z c g b g'):gI X z [c] g b g':=let ⟨t,q,k⟩:=h;⟨t,zK q,k⟩
inductive jS(T:Tg)(last:Nat)(Mw:G->Bool->G->Prop)(P8:G->D->G->Prop):List D->G->G->Prop
 |nil {g:G}:jS T last Mw P8 [] g g
 |skip:T.set d g=some g1->Mw g1 false g2->jS T last Mw P8 l g2 g'->jS T last Mw P8 (d::l) g g'
 |take:T.set d g=some g1->Mw g1 true g2->P8 g2 e g3->g3[last]?=some (.own acc)->acc.length<16777216->jS T last Mw P8 l (g3.set last (.own (acc++[e]))) g'->jS T last Mw P8 (d::l) g g'
section
theorem S.extend(s:S z g σ As M H)(hm:a∈M)(hA:a∉As)(h0:z.H0 a=none)(h:H a=some (.lst xs))(r:aC z.K M H l xs) :
  S z (g++(List.replicate k .no++[.own l])) (σ++(List.replicate k none++[some (.ref a)])) (As++([]++[a])) M H:=by
 have hl:=s.sl.length;refine⟨s.sl.append ((Slots.Ul k).append (.own h r .nil)),?_,λb hb=>?_,λi b l' e1 e2=>?_,s.live,s.keep,s.mQ,s.m0,s.bm,λp hp=>?_,s.tab,s.tm,s.tt⟩
 .
  rw[AX];refine u7.mpr ⟨s.nd,i3.mpr ⟨by simp,wT⟩,λx hx y hy e=>?_⟩
  rw[gN.mp hy]at e;exact hA (e▸hx)
 .
  rcases xL.mp hb with q |q
  . exact s.sub b q
  . rw[AX]at q;rw[gN.mp q];exact hm
 .
  rcases y8 i g.length with hi |hi
  . rw[dL hi]at e1;rw[dL ⋯]at e2;exact s.own i b l' e1 e2
  .
   rw[eD hi]at e1;rw[eD ⋯]at e2;rcases y8 (i - g.length) k with hk |hk
   .
    rw[dL (by rw[mI];exact hk)]at e1
    have:=mB e1;rw[An]at this;exact absurd this.2 ⋯
   .
    rw[eD (by rw[mI];lia),mI]at e2
    have e3:i - σ.length - k=0:=by
     rcases Nat.eq_zero_or_pos (i - σ.length - k)with q |q
     . exact q
     . rw[oS (Nat.succ_le_of_lt q)]at e2;cases e2
    rw[e3]at e2;have e4:some (some (V.ref a))=some (some (V.ref b)):=e2;injection e4 with e4;injection e4 with e4;injection e4 with e4;exact .inr (e4▸h0)
 . obtain⟨q1,l',q2⟩:=s.kN p hp;exact⟨by rw[dL (dE.mp q1).1];exact q1,l',by rw[dL (dE.mp q2).1];exact q2⟩
theorem Slots.split{K:Frag}{g1 g2:G}{σ:Sg}{As:List Addr}(q:Slots K M H (g1++g2) σ As):∃σ1 σ2 A1 A2,σ=σ1++σ2/\As=A1++A2/\Slots K M H g1 σ1 A1/\Slots K M H g2 σ2 A2:=by
 induction g1 generalizing σ As with
 |nil=>exact⟨[],_,[],_,rfl,rfl,.nil,q⟩
 |cons o g1 ih=>cases q with
  |no q=>obtain⟨s1,s2,a1,a2,rfl,rfl,h1,h2⟩:=ih q;exact⟨_::s1,s2,a1,a2,rfl,rfl,.no h1,h2⟩
  |dat r q=>obtain⟨s1,s2,a1,a2,rfl,rfl,h1,h2⟩:=ih q;exact⟨_::s1,s2,a1,a2,rfl,rfl,.dat r h1,h2⟩
  |own e r q=>obtain⟨s1,s2,a1,a2,rfl,rfl,h1,h2⟩:=ih q;exact⟨_::s1,s2,_::a1,a2,rfl,rfl,.own e r h1,h2⟩
theorem S.shrink{gb:G}{τ:Sg}{l:List D}{i:Nat}{a:Addr}(s:S z gb (σ++τ) As M H)(hz:∀p∈z.lent,p.1<σ.length)(hi:σ.length<=i)(e1:gb[i]?=some (.own l))(e2:(σ++τ)[i]?=some (some (.ref a))) :
  ∃A1,S z (gb.take σ.length) σ A1 M H/\a∈M/\a∉A1:=by
 have hl:=s.sl.length;rw[eQ]at hl;have q:=s.sl;rw[<- AZ σ.length gb]at q;obtain⟨σ1,σ2,A1,A2,h1,h2,h3,h4⟩:=q.split;have l1:=h3.length;rw[rV,Nat.min_eq_left ⋯]at l1;obtain⟨rfl,rfl⟩:=List.append_inj h1 l1;subst h2;have XZ:a∈A2:=by
  obtain⟨b,xs,f1,f2,_⟩:=h4.at (i:=i - σ.length) (l:=l) (by rw[List.getElem?_drop,Nat.add_sub_cancel' hi];exact e1)
  rw[eD hi]at e2;rw[e2]at f1;injection f1 with f1;injection f1 with f1;injection f1 with f1;exact f1▸f2
 have tk:∀(j:Nat) (o:Slot),(gb.take σ.length)[j]?=some o->gb[j]?=some o/\j<σ.length:=λj o e=>by
  have hj:=(dE.mp e).1;rw[rV]at hj;have hj':j<σ.length:=fR hj (Nat.min_le_left _ _);rw[sR hj']at e;exact⟨e,hj'⟩
 refine⟨A1,⟨h3,(u7.mp s.nd).1,λb hb=>s.sub b (t5 _ hb),λj b l' c1 c2=>?_,s.live,s.keep,s.mQ,s.m0,s.bm,λp hp=>?_,s.tab,s.tm,s.tt⟩,s.sub a (l8 _ XZ),λhA=>(u7.mp s.nd).2.2 a hA a XZ rfl⟩
 . obtain⟨c3,c4⟩:=tk j _ c1;exact s.own j b l' c3 (by rw[dL c4];exact c2)
 . obtain⟨c1,l',c2⟩:=s.kN p hp;have ug:=hz p hp;rw[dL ug]at c1;exact⟨c1,l',by rw[sR ug];exact c2⟩
theorem gZ(h:vM is (σ++τ) σ')(hi:∀i∈is,σ.length<=i):∃τ',σ'=σ++τ':=by
 refine⟨σ'.drop σ.length,?_⟩;have e:σ'.take σ.length=σ:=by
  apply List.ext_getElem?;intro j;rcases y8 j σ.length with hj |hj
  . rw[sR hj,h.2 j (λz=>Nat.not_lt.mpr (hi j z) hj),dL hj]
  . rw[oS (by rw[rV];exact l5 (Nat.min_le_left _ _) hj),oS hj]
 have:=(AZ σ.length σ').symm;rw[e]at this;exact this
end
section
def Mx(X:Cx)(tg:Expr):TG:=λv σ H Q=>∃t,PG X tg t/\t v σ H Q
theorem uo:PG X tg (Mx X tg):=λah s σ H v u Q I r h=>let ⟨t,q,k⟩:=h;q ah s σ H v u Q I r k
def RM(X:Cx)(ifs:List Expr):TT:=λσ H Q=>∃t,o9 X ifs t/\t σ H Q
theorem Ai:o9 X ifs (RM X ifs):=λah s σ H Q I h=>let ⟨t,q,k⟩:=h;q ah s σ H Q I k
def Gw(X:Cx)(e:Expr):TE:=λσ H Q=>∃t,PE X e t/\t σ H Q
theorem pK:PE X e (Gw X e):=λah s σ H Q I h=>let ⟨t,q,k⟩:=h;q ah s σ H Q I k
theorem kZ(hw:fc X z tg iter g items g1)(ht:∀b:Bk,kY (X.blk N' scope b) z tg T)(hT:∀i∈T.ix,g1.length<=i/\i<g1.length+k)
  (hcp:jS T (g1.length+k) (λg b g'=>∀bk:Bk,gI (X.blk N' scope bk) z ifs g b g') (λg d g'=>∀bk:Bk,aq (X.blk N' scope bk) z iC g (.dat d) g') items (gC k g1) gE) (hacc:gE[g1.length+k]?=some (.own acc)) :
  ∃wi,PI X tg iter wi/\∀σ As M H Q,S z g σ As M H->Kn z (gE.take g1.length) σ M H (.new acc) Q->zM X k wi (λb=>Mx (X.blk N' scope b) tg) (λb=>RM (X.blk N' scope b) ifs) (λD b=>Fq D (Gw (X.blk N' scope b) iC)) σ H Q:=by
 obtain⟨wi,q,kw⟩:=hw;refine⟨wi,q,λσ As M H Q s kq=>kw σ As M H _ s λJ H1 aR M1 s1 dc hJ D hD=>?_⟩
 have hl:g1.length=σ.length:=s1.sl.length;have hz:∀p∈z.lent,p.1<σ.length:=λp hp=>(dE.mp (s1.kN p hp).1).1
 have Uo:∀i∈T.ix,σ.length<=i:=λi hi=>by rw[<- hl];exact (hT i hi).1
 have fF:g1.length+k∉T.ix:=λh=>tJ _ (hT _ h).2
 have s1':=s1.aK (xs:=[]) hD;have h0:z.H0 D=none:=s1.bQ hD;have nA:D∉aR:=λh=>s1.fresh hD (s1.sub D h)
 have sb:=s1'.extend (k:=k) (l:=[]) dC nA h0 aD .nil;have RN:(σ++(List.replicate k none++[some (V.ref D)]))[g1.length+k]?=some (some (V.ref D)):=by
  rw[hl,eD (Nat.le_add_right _ _),wP,eD (by rw[mI];exact eA _),mI,Nat.sub_self]
  rfl
 refine⟨λi m σ' H'=>i+m=items.length/\∃gb Ab Mb τ,S z gb σ' Ab Mb H'/\ao M1 H1 Mb H'/\σ'=σ++τ/\σ'[g1.length+k]?=some (some (.ref D))/\jS T (g1.length+k) (λg b g'=>∀bk:Bk,gI (X.blk N' scope bk) z ifs g b g') (λg d g'=>∀bk:Bk,aq (X.blk N' scope bk) z iC g (.dat d) g') (items.drop i) gb gE,
  ⟨items.length,by lia,_,_,_,_,sb,ao.aK hD,rfl,RN,hcp⟩,?_⟩
 rintro i m σ' H' ⟨XT,gb,Ab,Mb,τ,s2,aM,rfl,Up,cp⟩;obtain⟨hgo,hstop⟩:=hJ Mb H' aM;cases e:items[i]? with
 |none=>
  have hi:i=items.length:=by have:=AB.mp e;lia
  subst hi;rw[List.drop_length]at cp;cases cp;refine .inl ⟨hstop,?_⟩;obtain⟨a,xs,f1,f2,f3,f4⟩:=s2.sl.at hacc;rw[Up]at f1;injection f1 with f1;injection f1 with f1;injection f1 with f1;subst f1;obtain⟨A1,s3,m3,n3⟩:=s2.shrink hz ⋯ hacc Up;rw[<- hl]at s3;exact kq _ H' A1 Mb s3 (dc.trans aM) ⟨D,xs,rfl,m3,n3,h0,f3,f4⟩
 |some d=>
  obtain⟨go,yl⟩:=hgo i d e;rw[drop_cons e]at cp;have hi:i<items.length:=(dE.mp e).1;refine .inr ⟨go,λσ' H'=>∃gb Ab Mb τ,S z gb σ' Ab Mb H'/\ao M1 H1 Mb H'/\σ'=σ++τ/\σ'[g1.length+k]?=some (some (.ref D))/\jS T (g1.length+k) (λg b g'=>∀bk:Bk,gI (X.blk N' scope bk) z ifs g b g') (λg d g'=>∀bk:Bk,aq (X.blk N' scope bk) z iC g (.dat d) g') (items.drop (i+1)) gb gE,
   λUh Ui hN=>⟨m - 1,by lia,by lia,hN⟩,λx H2 hx bk _=>?_⟩
  obtain⟨s3,fW,rx⟩:=yl x H2 hx z gb (σ++τ) Ab rfl s2;obtain⟨t,qt,kt⟩:=ht bk;cases cp with
  |skip e0 hc rest=>
   refine⟨t,qt,kt d gb _ e0 x _ Ab Mb H2 _ s3 rx λσ4 mR s4 ag=>?_⟩
   obtain⟨τ',rfl⟩:=gZ ag Uo;obtain⟨t2,q2,k2⟩:=hc bk;refine⟨t2,q2,k2 _ mR Mb H2 _ s4 λH5 RP M5 s5 wX=>?_⟩
   refine qR ⟨_,RP,M5,τ',s5,(aM.trans fW).trans wX,rfl,?_,rest⟩;rw[ag.2 _ fF];exact Up
  |take e0 hc he ha hz' rest=>
   refine⟨t,qt,kt d gb _ e0 x _ Ab Mb H2 _ s3 rx λσ4 mR s4 ag=>?_⟩
   obtain⟨τ',rfl⟩:=gZ ag Uo;obtain⟨t2,q2,k2⟩:=hc bk;obtain⟨t3,q3,k3⟩:=he bk;have Wr:(σ++τ')[g1.length+k]?=some (some (V.ref D)):=by rw[ag.2 _ fF];exact Up
   refine⟨t2,q2,k2 _ mR Mb H2 _ s4 λH5 RP M5 s5 wX=>kK ⟨t3,q3,k3 _ RP M5 H5 _ s5 λv H6 Ws M6 s6 Uq R6=>?_⟩⟩
   obtain⟨a,xs,f1,f2,f3,f4⟩:=s6.sl.at ha;rw[Wr]at f1;injection f1 with f1;injection f1 with f1;injection f1 with f1;subst f1;obtain⟨s7,Zu⟩:=s6.write ha Wr (f4.append (.cons R6 .nil));refine⟨xs,f3,by rw[<- f4.length,oC];exact hz',_,Ws,M6,τ',s7,(((aM.trans fW).trans wX).trans Uq).trans Zu,rfl,Wr,rest⟩
theorem Gx(B:cz X.env.scope scope)(hc:X.calm=true)(hN:Names X.N N' scope k)(hw:fc X z tg iter g items g1)(ht:∀b:Bk,kY (X.blk N' scope b) z tg T)(hT:∀i∈T.ix,g1.length<=i/\i<g1.length+k)
  (hcp:jS T (g1.length+k) (λg b g'=>∀bk:Bk,gI (X.blk N' scope bk) z ifs g b g') (λg d g'=>∀bk:Bk,aq (X.blk N' scope bk) z iC g (.dat d) g') items (gC k g1) gE) (hacc:gE[g1.length+k]?=some (.own acc))
  (hs:∀x,foldedSetIterable iter X.env x=pure x):aq X z (.ListComp iC [⟨tg,iter,ifs,0⟩] scope pos) g (.new acc) (gE.take g1.length):=by
 obtain⟨wi,q,kk⟩:=kZ hw ht hT hcp hacc;exact⟨_,Fz B hc hN q (λb=>⟨uo,Ai,pK⟩) hs,kk⟩
theorem Gy(B:cz X.env.scope scope)(hc:X.calm=true)(hN:Names X.N N' scope k)(hw:fc X z tg iter g items g1)(ht:∀b:Bk,kY (X.blk N' scope b) z tg T)(hT:∀i∈T.ix,g1.length<=i/\i<g1.length+k)
  (hcp:jS T (g1.length+k) (λg b g'=>∀bk:Bk,gI (X.blk N' scope bk) z ifs g b g') (λg d g'=>∀bk:Bk,aq (X.blk N' scope bk) z iC g (.dat d) g') items (gC k g1) gE) (hacc:gE[g1.length+k]?=some (.own acc))
  (Wg:X.N.Nodup) (hy:X.N[i]?=some y) (hl:X.env.scope.names.lookup y=some .local) (hb:i∉z.bor) (hi:i<(gE.take g1.length).length)
  (hsw:swapsWith (.ListComp iC [⟨tg,iter,ifs,0⟩] scope pos) (some (.Name y py)) dw.line X.env=pure true)
  (hs:∀x,foldedSetIterable iter X.env x=pure x):gW X z (.Assign [.Name y py] (.ListComp iC [⟨tg,iter,ifs,0⟩] scope pos) dw) g .nx ((gE.take g1.length).set i (.own acc)):=by
 obtain⟨wi,q,kk⟩:=kZ hw ht hT hcp hacc;refine⟨_,FG B hc hN q (λb=>⟨uo,Ai,pK⟩) Wg hy hl hsw hs,λσ As M H E s kE=>kk σ As M H _ s λv H' au M' s' st R=>?_⟩
 obtain⟨a,xs,rfl,hm,hA,h0,ha,rr⟩:=R;obtain⟨bf,s2⟩:=s'.pD hb hi hm hA h0 ha rr;exact kE _ bf M' H' s2 st
end
section
theorem aq.run(he:aq X z e g r g1)(I:L2.Inv X ah σ H s)(st:S z g σ As M H)
  (k:∀v u s1 H1 aR M1,L2.Inv X ah σ H1 s1->RelV v u->S z g1 σ aR M1 H1->ao M H M1 H1->dX z g1 σ aR M1 H1 r v->Post u s1):wpAny (model X.prog X.w) X.A (eval e X.env) Post X.xe s:=by
 obtain⟨t,q,kt⟩:=he;exact bI (q ah s σ H (λv H1=>∃aR M1,S z g1 σ aR M1 H1/\ao M H M1 H1/\dX z g1 σ aR M1 H1 r v) I (kt σ As M H _ st λv H1 aR M1 s1 dc R=>⟨aR,M1,s1,dc,R⟩)) λu s1 ⟨v,H1,I1,r1,aR,M1,q1,q2,q3⟩=>k v u s1 H1 aR M1 I1 r1 q1 q2 q3
theorem jj.run(ho:jj X z f d1 d2 r)(I:L2.Inv X ah σ H s)(st:S z g σ As M H)(p1:Pk z.K M H d1 v1)(p2:Pk z.K M H d2 v2)(r1:RelV v1 u1)(r2:RelV v2 u2)
  (k:∀v u s1 H1 aR M1,L2.Inv X ah σ H1 s1->RelV v u->S z g σ aR M1 H1->ao M H M1 H1->dX z g σ aR M1 H1 r v->Post u s1):wpAny (model X.prog X.w) X.A (f u1 u2) Post X.xe s:=by
 obtain⟨rr,o,ko⟩:=ho;exact bI (o ah s σ H v1 v2 u1 u2 (λv H1=>∃aR M1,S z g σ aR M1 H1/\ao M H M1 H1/\dX z g σ aR M1 H1 r v) I r1 r2 (ko g σ As M H v1 v2 _ st p1 p2 λv H1 aR M1 s1 dc R=>⟨aR,M1,s1,dc,R⟩)) λu s1 ⟨v,H1,I1,r1,aR,M1,q1,q2,q3⟩=>k v u s1 H1 aR M1 I1 r1 q1 q2 q3
theorem aq.of (h:∀(ah:List (Addr×Obj)) (s:Shared) (σ:Sg) (As M:List Addr) (H:Hp) (Post:Value->Shared->Prop),L2.Inv X ah σ H s->S z g σ As M H->
  (∀v u s1 H1 aR M1,L2.Inv X ah σ H1 s1->RelV v u->S z g1 σ aR M1 H1->ao M H M1 H1->dX z g1 σ aR M1 H1 r v->Post u s1)->wpAny (model X.prog X.w) X.A (eval e X.env) Post X.xe s):aq X z e g r g1:=
 ⟨λσ H Q=>∃As M,S z g σ As M H/\Kn z g1 σ M H r Q,λah s σ H Q I ⟨As,M,st,k⟩=>h ah s σ As M H _ I st λv u s1 H1 aR M1 I1 r1 q1 q2 q3=>⟨v,H1,I1,r1,k v H1 aR M1 q1 q2 q3⟩,λσ As M H Q s k=>⟨As,M,s,k⟩⟩
theorem bV.of (h:∀(ah:List (Addr×Obj)) (s:Shared) (σ:Sg) (As M:List Addr) (H:Hp) (Post:Bool->Shared->Prop),L2.Inv X ah σ H s->S z g σ As M H->
  (∀s1 H1 aR M1,L2.Inv X ah σ H1 s1->S z g1 σ aR M1 H1->ao M H M1 H1->Post b s1)->wpAny (model X.prog X.w) X.A (isTrue e X.env (eval e X.env)) Post X.xe s):bV X z e g b g1:=
 ⟨λσ H Q=>∃As M,S z g σ As M H/\(∀H' au M',S z g1 σ au M' H'->ao M H M' H'->Q b H'),λah s σ H Q I ⟨As,M,st,k⟩=>h ah s σ As M H _ I st λs1 H1 aR M1 I1 q1 q2=>⟨H1,I1,k H1 aR M1 q1 q2⟩,λσ As M H Q s k=>⟨As,M,s,k⟩⟩
inductive pL(X:Cx)(z:Z):D->List CmpOp->List Expr->G->Bool->G->Prop
 |last {d1 d2:D}{op:CmpOp}{b:Expr}{g g1:G}{c:Bool}:aq X z b g (.dat d2) g1->jj X z (compareOp op) d1 d2 (.dat (.bl c))->pL X z d1 [op] [b] g c g1
 |stop {d1 d2:D}{op op':CmpOp}{ops:List CmpOp}{b b':Expr}{bs:List Expr}{g g1:G}:aq X z b g (.dat d2) g1->jj X z (compareOp op) d1 d2 (.dat (.bl false))->pL X z d1 (op::op'::ops) (b::b'::bs) g false g1
 |link {d1 d2:D}{op op':CmpOp}{ops:List CmpOp}{b b':Expr}{bs:List Expr}{g g1 g2:G}{c:Bool}:aq X z b g (.dat d2) g1->jj X z (compareOp op) d1 d2 (.dat (.bl true))->pL X z d2 (op'::ops) (b'::bs) g1 c g2->pL X z d1 (op::op'::ops) (b::b'::bs) g c g2
theorem My(h:pL X z d1 ops bs g c g'):∀(ah:List (Addr×Obj)) (s:Shared) (σ:Sg) (H:Hp) (As M:List Addr) (Post:Value->Shared->Prop) (v1:V) (u1:Value),L2.Inv X ah σ H s->S z g σ As M H->Rep z.K M H d1 v1->RelV v1 u1->
  (∀s1 H' au M',L2.Inv X ah σ H' s1->S z g' σ au M' H'->ao M H M' H'->Post (.bool c) s1)->wpAny (model X.prog X.w) X.A (compareChain pos u1 ops (evalEach bs X.env)) Post X.xe s:=by
 induction h with
 |@last d1 d2 op b g g1 c he ho=>
  intro ah s σ H As M Post v1 u1 I st r rv k;show wpAny _ X.A (compareChain pos u1 [op] [eval b X.env]) _ _ s;refine chain_last (he.run I st λv u s1 H1 aR M1 I1 r1 q1 q2 q3=>ho.run I1 q1 (.of (r.stay q2)) (.of q3) rv r1 λv' u' s2 H2 bf M2 I2 r2 p1 p2 p3=>?_)
  rw[dZ p3]at r2;cases r2;exact k s2 H2 bf M2 I2 p1 (q2.trans p2)
 |@stop d1 d2 op op' ops b b' bs g g1 he ho=>
  intro ah s σ H As M Post v1 u1 I st r rv k;show wpAny _ X.A (compareChain pos u1 (op::op'::ops) (eval b X.env::eval b' X.env::evalEach bs X.env)) _ _ s;refine chain_link (he.run I st λv u s1 H1 aR M1 I1 r1 q1 q2 q3=>ho.run I1 q1 (.of (r.stay q2)) (.of q3) rv r1 λv' u' s2 H2 bf M2 I2 r2 p1 p2 p3=>?_)
  rw[dZ p3]at r2;cases r2;exact nN (ite_ff (k s2 H2 bf M2 I2 p1 (q2.trans p2)))
 |@link d1 d2 op op' ops b b' bs g g1 g2 c he ho hch ih=>
  intro ah s σ H As M Post v1 u1 I st r rv k;show wpAny _ X.A (compareChain pos u1 (op::op'::ops) (eval b X.env::eval b' X.env::evalEach bs X.env)) _ _ s;refine chain_link (he.run I st λv u s1 H1 aR M1 I1 r1 q1 q2 q3=>ho.run I1 q1 (.of (r.stay q2)) (.of q3) rv r1 λv' u' s2 H2 bf M2 I2 r2 p1 p2 p3=>?_)
  rw[dZ p3]at r2;cases r2;exact nN (ite_tt (ih ah s2 σ H2 bf M2 Post v u I2 p1 (Rep.stay p2 q3) r1 λs3 H3 jH M3 I3 w1 w2=>k s3 H3 jH M3 I3 w1 ((q2.trans p2).trans w2)))
theorem Gz(h:pL X z d1 ops bs g c g'):∀(ah:List (Addr×Obj)) (s:Shared) (σ:Sg) (H:Hp) (As M:List Addr) (Post:Bool->Shared->Prop) (v1:V) (u1:Value),L2.Inv X ah σ H s->S z g σ As M H->Rep z.K M H d1 v1->RelV v1 u1->
  (∀s1 H' au M',L2.Inv X ah σ H' s1->S z g' σ au M' H'->ao M H M' H'->Post c s1)->wpAny (model X.prog X.w) X.A (testChain pos u1 ops (evalEach bs X.env)) Post X.xe s:=by
 induction h with
 |@last d1 d2 op b g g1 c he ho=>
  intro ah s σ H As M Post v1 u1 I st r rv k;show wpAny _ X.A (testChain pos u1 [op] [eval b X.env]) _ _ s;refine test_last (he.run I st λv u s1 H1 aR M1 I1 r1 q1 q2 q3=>ho.run I1 q1 (.of (r.stay q2)) (.of q3) rv r1 λv' u' s2 H2 bf M2 I2 r2 p1 p2 p3=>?_)
  rw[dZ p3]at r2;cases r2;exact nN (k s2 H2 bf M2 I2 p1 (q2.trans p2))
 |@stop d1 d2 op op' ops b b' bs g g1 he ho=>
  intro ah s σ H As M Post v1 u1 I st r rv k;show wpAny _ X.A (testChain pos u1 (op::op'::ops) (eval b X.env::eval b' X.env::evalEach bs X.env)) _ _ s;refine test_link (he.run I st λv u s1 H1 aR M1 I1 r1 q1 q2 q3=>ho.run I1 q1 (.of (r.stay q2)) (.of q3) rv r1 λv' u' s2 H2 bf M2 I2 r2 p1 p2 p3=>?_)
  rw[dZ p3]at r2;cases r2;exact nN (ite_ff (k s2 H2 bf M2 I2 p1 (q2.trans p2)))
 |@link d1 d2 op op' ops b b' bs g g1 g2 c he ho hch ih=>
  intro ah s σ H As M Post v1 u1 I st r rv k;show wpAny _ X.A (testChain pos u1 (op::op'::ops) (eval b X.env::eval b' X.env::evalEach bs X.env)) _ _ s;refine test_link (he.run I st λv u s1 H1 aR M1 I1 r1 q1 q2 q3=>ho.run I1 q1 (.of (r.stay q2)) (.of q3) rv r1 λv' u' s2 H2 bf M2 I2 r2 p1 p2 p3=>?_)
  rw[dZ p3]at r2;cases r2;exact nN (ite_tt (ih ah s2 σ H2 bf M2 Post v u I2 p1 (Rep.stay p2 q3) r1 λs3 H3 jH M3 I3 w1 w2=>k s3 H3 jH M3 I3 w1 ((q2.trans p2).trans w2)))
theorem Aj(ha:aq X z a g (.dat d1) g1)(h:pL X z d1 (GC::GD::ops) (b1::b2::bs) g1 c g2)(hm:lastMarks (GC::GD::ops) (b1::b2::bs)=false):aq X z (.Compare a (GC::GD::ops) (b1::b2::bs) pos) g (.dat (.bl c)) g2:=
 aq.of λah s σ As M H Post I st k=>Compare_chain (ha.run I st λv u s1 H1 aR M1 I1 r1 q1 q2 q3=>My h ah s1 σ H1 aR M1 Post v u I1 q1 q3 r1 λs2 H2 bf M2 I2 p1 p2=>k (.bl c) (.bool c) s2 H2 bf M2 I2 rfl p1 (q2.trans p2) (.bl c)) hm
theorem Ak(ha:aq X z a g (.dat d1) g1)(h:pL X z d1 (GC::GD::ops) (b1::b2::bs) g1 c g2)(hm:lastMarks (GC::GD::ops) (b1::b2::bs)=false):bV X z (.Compare a (GC::GD::ops) (b1::b2::bs) pos) g c g2:=
 bV.of λah s σ As M H Post I st k=>isTrue_chain (ha.run I st λv u s1 H1 aR M1 I1 r1 q1 q2 q3=>Gz h ah s1 σ H1 aR M1 Post v u I1 q1 q3 r1 λs2 H2 bf M2 I2 p1 p2=>k s2 H2 bf M2 I2 p1 (q2.trans p2)) hm
inductive jT(X:Cx)(z:Z)(c:Expr)(body:List Stmt):Nat->G->Fl->G->Prop
 |done {n:Nat}{g g1:G}:bV X z c g false g1->jT X z c body n g .nx g1
 |next {n:Nat}{g g1 g2 g3:G}{f:Fl}:bV X z c g true g1->cS X z body g1 .nx g2->jT X z c body n g2 f g3->jT X z c body (n+1) g f g3
 |cont {n:Nat}{g g1 g2 g3:G}{f:Fl}:bV X z c g true g1->cS X z body g1 .ct g2->jT X z c body n g2 f g3->jT X z c body (n+1) g f g3
 |brk {n:Nat}{g g1 g2:G}:bV X z c g true g1->cS X z body g1 .bk g2->jT X z c body n g .nx g2
 |ret {n:Nat}{g g1 g2:G}{r:R}:bV X z c g true g1->cS X z body g1 (.rt r) g2->jT X z c body n g (.rt r) g2
def RQ(X:Cx)(e:Expr):TT:=λσ H Q=>∃t,PT X e t/\t σ H Q
theorem Mz{e:Expr}:PT X e (RQ X e):=λah s σ H Q I h=>let ⟨t,q,k⟩:=h;q ah s σ H Q I k
theorem Al{ce:Expr}{body:List Stmt}{n:Nat}{f:Fl}{g':G}(hp:PassesOwn (model X.prog X.w) X.A X.env X.xe)(h:jT X z ce body n g f g'):gW X z (.While ce body [] pos) g f g':=by
 refine⟨_,zm hp Mz vJ,λσ As M H E s k=>?_⟩
 refine⟨λm σ2 H2=>∃g2 bf M2,S z g2 σ2 bf M2 H2/\ao M H M2 H2/\jT X z ce body m g2 f g',⟨n,g,As,M,s,ao.refl _ _,h⟩,?_⟩
 rintro m σ2 H2 ⟨g2,bf,M2,s2,aM,w⟩;cases w with
 |done hc=>obtain⟨t,q,kt⟩:=hc;exact⟨t,q,kt σ2 bf M2 H2 _ s2 λH3 jH M3 s3 fW=>qR (k σ2 jH M3 H3 s3 (aM.trans fW))⟩
 |@next m' _ g3 g4 _ _ hc hb w'=>
  obtain⟨t,q,kt⟩:=hc;obtain⟨tb,qb,kb⟩:=hb;refine⟨t,q,kt σ2 bf M2 H2 _ s2 λH3 jH M3 s3 fW=>kK ⟨λσ' H'=>∃g2 bf M2,S z g2 σ' bf M2 H'/\ao M H M2 H'/\jT X z ce body m' g2 f g',λσ' H' hN=>⟨m',wE _,hN⟩,tb,qb,kb σ2 jH M3 H3 _ s3 λσ4 mR M4 H4 s4 um=>?_⟩⟩
  exact⟨g4,mR,M4,s4,(aM.trans fW).trans um,w'⟩
 |@cont m' _ g3 g4 _ _ hc hb w'=>
  obtain⟨t,q,kt⟩:=hc;obtain⟨tb,qb,kb⟩:=hb;refine⟨t,q,kt σ2 bf M2 H2 _ s2 λH3 jH M3 s3 fW=>kK ⟨λσ' H'=>∃g2 bf M2,S z g2 σ' bf M2 H'/\ao M H M2 H'/\jT X z ce body m' g2 f g',λσ' H' hN=>⟨m',wE _,hN⟩,tb,qb,kb σ2 jH M3 H3 _ s3 λσ4 mR M4 H4 s4 um=>?_⟩⟩
  exact⟨g4,mR,M4,s4,(aM.trans fW).trans um,w'⟩
 |brk hc hb=>obtain⟨t,q,kt⟩:=hc;obtain⟨tb,qb,kb⟩:=hb;exact⟨t,q,kt σ2 bf M2 H2 _ s2 λH3 jH M3 s3 fW=>kK ⟨λ_ _=>False,λσ' H' hN=>hN.elim,tb,qb,kb σ2 jH M3 H3 _ s3 λσ4 mR M4 H4 s4 um=>k σ4 mR M4 H4 s4 ((aM.trans fW).trans um)⟩⟩
 |ret hc hb=>obtain⟨t,q,kt⟩:=hc;obtain⟨tb,qb,kb⟩:=hb;exact⟨t,q,kt σ2 bf M2 H2 _ s2 λH3 jH M3 s3 fW=>kK ⟨λ_ _=>False,λσ' H' hN=>hN.elim,tb,qb,kb σ2 jH M3 H3 _ s3 λv σ4 mR M4 H4 s4 um R=>k v σ4 mR M4 H4 s4 ((aM.trans fW).trans um) R⟩⟩
noncomputable def GF:D->Option Bool
 |.bl b=>some b
 |.non=>some false
 |.int i=>some (i != 0)
 |.lst l=>some (!l.isEmpty)
 |.tup l=>some (!l.isEmpty)
 |.fix l=>some (!l.isEmpty)
 |_=>none
end
end Ev
namespace HT
section
theorem gq{t sl:Addr}{items:Array Value}{vl vu:Value}{lo hi:Option Int}{Q:Value->Shared->Prop}(ht:IsTup s.heap t items)(hs:s.heap.IsSliceOf sl vl vu .none)(pl:IsPart vl lo)(pu:IsPart vu hi)
  (hw:bD items.size 0 lo=0/\bD items.size items.size hi=items.size)
  (h:Q (.ref t) s):wpAny (model prog w) A (getItem (.ref t) (.ref sl)) Q E s:=by
 obtain⟨os,hos,hcs,hds⟩:=id hs;have Ra:s.TypeIs (.ref sl) "slice" :=⟨os,hos,hcs⟩;unfold getItem
 try with_reducible refine i7 ?_
 first |refine aS (bP ?_) |skip
 refine aS (wpAny_sequenceKey ht.typeIs ⋯ ?_);refine aS (mM (name:=Str.ofString "__getitem__") ht.typeIs nE
  (mE nE ht.typeIs entry_tuple_getitem ?_ (args_tuple_getitem _ _)))
 show wpAny _ _ (Builtin.Tuple.tupleItemsOf (.ref t) >>= _) _ _ s;refine aS (tupleItemsOf_ ht ?_);refine aS (AJ Ra ?_);rw[fN ⋯];refine aS (dU hs pl pu ?_);have hyes:(((bD items.size 0 lo:Nat):Int)==0&&(1:Int)==1&&(bD items.size items.size hi - bD items.size 0 lo)==items.size)=true:=by rw[hw.1,hw.2];simp
 show wpAny _ _ (if (((bD items.size 0 lo:Nat):Int)==0&&(1:Int)==1&&(bD items.size items.size hi - bD items.size 0 lo)==items.size)=true then _ else _) _ _ s
 rw[fN hyes];refine aS (m:=Builtin.Tuple.tupleIsExact _) (aS (AJ ht.typeIs (bP ?_)));rw[fN ⋯];exact aS (C5 (bP ⟨_,rfl,bP h⟩))
end
end HT
namespace Ev
open L2
def fG{α:Type}(xs:List α)(lo hi:Option Int):List α:=(xs.drop (HT.bD xs.length 0 lo)).take (HT.bD xs.length xs.length hi - HT.bD xs.length 0 lo)
theorem uq{α:Type}{xs:List α}{lo hi:Option Int}(h:HT.bD xs.length 0 lo=0/\HT.bD xs.length xs.length hi=xs.length):fG xs lo hi=xs:=by unfold fG;rw[h.1,h.2,List.drop_zero,Nat.sub_zero,List.take_length]
section
variable{lo hi:Option Expr}
def Wt(K:Frag):V->Option Int->Option Int->Hp->VK->Prop:=λx lo hi H Q=>∃a xs,x=.ref a/\eZ K H a xs/\
 ((HT.bD xs.length 0 lo=0/\HT.bD xs.length xs.length hi=xs.length/\Q (.ref a) H)\/(¬ (HT.bD xs.length 0 lo=0/\HT.bD xs.length xs.length hi=xs.length)/\∀p,H p=none->Q (.ref p) (upd H p (.tup (oW xs lo hi)))))
theorem GJ:Ue X (Wt X.K):=by
 intro ah s σ H x v vl vu lo hi sl Q I rx hs pl pu h;obtain⟨a,xs,rfl,hx,h⟩:=h;rcases h with ⟨h1,h2,q⟩ |⟨h1,q⟩
 .
  cases rx;obtain⟨its,r,ht,hz⟩:=I.tuple hx;have aF:its.toArray.size=xs.length:=by rw[dA];exact r.length.symm
  refine⟨"tuple",_,PyProof.Rows.slot_tuple_getitem.lookup,ht.typeIs,?_⟩;exact HT.gq ht hs pl pu (by rw[aF];exact⟨h1,h2⟩) ⟨.ref a,H,I,rfl,q⟩
 . exact KN ah s σ H (.ref a) v vl vu lo hi sl Q I rx hs pl pu ⟨a,xs,rfl,hx,h1,q⟩
def pM(X:Cx)(z:Z)(e:Option Expr)(g:G)(o:Option Int)(g':G):Prop:=
 ∃t,PO X e t/\∀σ As M H (Q:Option Int->Hp->Prop),S z g σ As M H->(∀H' au M',S z g' σ au M' H'->ao M H M' H'->Q o H')->t σ H Q
theorem xH:pM X z none g none g:=⟨_,Ff,λσ As M H Q s k=>k H As M s (ao.refl _ _)⟩
theorem xJ(h:aq X z e g (.dat (.int i)) g1):pM X z (some e) g (some i) g1:=by
 obtain⟨t,q,k⟩:=h;refine⟨_,Fg q,λσ As M H Q s kk=>k σ As M H _ s λv H' au M' s' st R=>?_⟩
 have R':Rep z.K M' H' (.int i) v:=R;cases R';exact⟨i,rfl,kk H' au M' s' st⟩
theorem aC.cut{K:Frag}{M:List Addr}{H:Hp}{ds:List D}{vs:List V}(r:aC K M H ds vs)(l u:Option Int):aC K M H (fG ds l u) (oW vs l u):=by unfold fG oW;rw[r.length];exact aC.take _ (aC.drop _ r)
theorem xK{r:R}{l:List D}{d:D}{i j:Option Int}(hK:z.K=X.K)(h:aq X z a g r g1)(h1:pM X z lo g1 i g2)(h2:pM X z hi g2 j g3)(hp:pk r g3=some (.lst l)):aq X z (.Subscript a (.Slice lo hi none p2) pos) g (.new (fG l i j)) g3:=by
 obtain⟨t,q,k⟩:=h;obtain⟨t1,q1,k1⟩:=h1;obtain⟨t2,q2,k2⟩:=h2;refine⟨_,kJ vE q q1 q2,λσ As M H Q s kk=>k σ As M H _ s λv H1 aR M1 s1 dc R=>k1 σ aR M1 H1 _ s1 λH2 bf M2 s2 aM=>k2 σ bf M2 H2 _ s2 λH3 jH M3 s3 fW=>?_⟩
 obtain⟨b,xs,rfl,e1,e2⟩:=(s3.pk (aM.trans fW) R hp).list;refine⟨b,xs,rfl,bU.of e1,λp hp=>?_⟩
 exact kk _ _ jH (p::M3) (s3.aK hp) (((dc.trans aM).trans fW).trans (ao.aK hp)) ⟨p,_,rfl,dC,λhA=>s3.fresh hp (s3.sub p hA),s3.bQ hp,aD,(e2.cut i j).stay (ao.aK hp)⟩
theorem xM(hK:z.K=X.K)(h:aq X z a g (.dat (.fix l)) g1)(h1:pM X z lo g1 i g2)(h2:pM X z hi g2 j g3):aq X z (.Subscript a (.Slice lo hi none p2) pos) g (.new (fG l i j)) g3:=by
 obtain⟨t,q,k⟩:=h;obtain⟨t1,q1,k1⟩:=h1;obtain⟨t2,q2,k2⟩:=h2;refine⟨_,kJ vE q q1 q2,λσ As M H Q s kk=>k σ As M H _ s λv H1 aR M1 s1 dc R=>k1 σ aR M1 H1 _ s1 λH2 bf M2 s2 aM=>k2 σ bf M2 H2 _ s2 λH3 jH M3 s3 fW=>?_⟩
 have R':Rep z.K M3 H3 (.fix l) v:=Rep.stay (aM.trans fW) R;cases R' with
 |@fix _ b xs e1 e2=>
  refine⟨b,xs,rfl,hK▸e1.sq,λp hp=>?_⟩
  exact kk _ _ jH (p::M3) (s3.aK hp) (((dc.trans aM).trans fW).trans (ao.aK hp)) ⟨p,_,rfl,dC,λhA=>s3.fresh hp (s3.sub p hA),s3.bQ hp,aD,(e2.cut i j).stay (ao.aK hp)⟩
theorem xN(hK:z.K=X.K)(h:aq X z a g (.dat (.tup l)) g1)(h1:pM X z lo g1 i g2)(h2:pM X z hi g2 j g3):aq X z (.Subscript a (.Slice lo hi none p2) pos) g (.dat (.tup (fG l i j))) g3:=by
 obtain⟨t,q,k⟩:=h;obtain⟨t1,q1,k1⟩:=h1;obtain⟨t2,q2,k2⟩:=h2;refine⟨_,kJ GJ q q1 q2,λσ As M H Q s kk=>k σ As M H _ s λv H1 aR M1 s1 dc R=>k1 σ aR M1 H1 _ s1 λH2 bf M2 s2 aM=>k2 σ bf M2 H2 _ s2 λH3 jH M3 s3 fW=>?_⟩
 have R':Rep z.K M3 H3 (.tup l) v:=Rep.stay (aM.trans fW) R;cases R' with
 |@tup _ b xs e1 e2=>
  refine⟨b,xs,rfl,hK▸e1.sq,?_⟩;by_cases hw:HT.bD xs.length 0 i=0/\HT.bD xs.length xs.length j=xs.length
  .
   refine .inl ⟨hw.1,hw.2,kk _ _ jH M3 s3 ((dc.trans aM).trans fW) ?_⟩;have e:fG l i j=l:=uq (by rw[e2.length];exact hw)
   rw[e];exact .tup e1 e2
  . exact .inr ⟨hw,λp hp=>kk _ _ jH M3 (s3.laid hp) (((dc.trans aM).trans fW).trans (ao.laid hp)) (.tup (.inl ⟨s3.fresh hp,.inl aD⟩) ((e2.cut i j).stay (ao.laid hp)))⟩
theorem Am(hK:z.K=X.K)(h:aq X z e g r g1)(hp:pk r g1=some d)(hb:GF d=some b)(he:∀whole,isTrue e X.env whole=(do let v <- whole;standAt e.pos;holding [v] (truthy v))):bV X z e g b g1:=by
 obtain⟨t,q,k⟩:=h;refine⟨_,zz q he,λσ As M H Q s kk=>k σ As M H _ s λv H1 aR M1 s1 dc R=>⟨b,?_,kk H1 aR M1 s1 dc⟩⟩
 have p:=s1.pk (ao.refl _ _) R hp;cases d with
 |non=>rw[p.non];cases hb;rfl
 |bl c=>rw[p.bl];cases hb;rfl
 |int i=>rw[p.int];cases hb;rfl
 |str x=>cases hb
 |emp=>cases hb
 |vG _=>cases hb
 |qB _ _=>cases hb
 |lst l=>obtain⟨a,xs,rfl,e1,e2⟩:=p.list;cases hb;refine .inl ⟨xs,bU.of e1,?_⟩;cases e2 <;> rfl
 |tup l=>obtain⟨a,xs,rfl,e1,e2⟩:=p.tup;cases hb;refine .inr (.inl ⟨xs,hK▸e1.sq,?_⟩);cases e2 <;> rfl
 |fix l=>obtain⟨a,xs,rfl,e1,e2⟩:=p.fix;cases hb;refine .inl ⟨xs,hK▸e1.sq,?_⟩;cases e2 <;> rfl
end
section
theorem MF(I:L2.Inv X ah σ H s)(p:Pk X.K M H d v)(r:RelV v u):∃Hh,PySem.W.KitX X.K u (Ed d) Hh/\Hh s.heap/\u≠.builtin "__main__.__loader__#opaque" :=by
 cases d with
 |non=>have q:=p.non;subst q;cases r;exact⟨_,PySem.W.kitx_none,True.intro,λz=>nomatch z⟩
 |bl y=>have q:=p.bl;subst q;cases r;exact⟨_,PySem.W.kitx_bool,True.intro,λz=>nomatch z⟩
 |int i=>have q:=p.int;subst q;obtain⟨t,rfl⟩:=r;exact⟨_,PySem.W.kitx_int,True.intro,λz=>nomatch z⟩
 |str y=>have q:=p.str;subst q;obtain⟨t,rfl⟩:=r;exact⟨_,PySem.W.kitx_str,True.intro,λz=>nomatch z⟩
 |tup l=>obtain⟨a,xs,rfl,ha,_⟩:=p.tup;cases r;obtain⟨its,_,⟨o,h1,h2,_⟩,_⟩:=I.tuple ha.sq;exact⟨_,PySem.W.kitx_tuple,⟨o,h1,h2⟩,λz=>nomatch z⟩
 |lst l=>obtain⟨a,xs,rfl,ha,_⟩:=p.list;cases r;obtain⟨its,_,pl,_⟩:=I.list (bU.of ha);obtain⟨o,h1,h2,_⟩:=pl.isList;exact⟨_,B0,⟨o,h1,h2⟩,λz=>nomatch z⟩
 |fix l=>obtain⟨a,xs,rfl,ha,_⟩:=p.fix;cases r;obtain⟨its,_,pl,_⟩:=I.list ha.sq;obtain⟨o,h1,h2,_⟩:=pl.isList;exact⟨_,B0,⟨o,h1,h2⟩,λz=>nomatch z⟩
 |emp=>
  cases p with
  |of q=>
   cases q with
   |emp _ ha=>cases r;obtain⟨_,_,vs,_,o,es,ep,h1,h2,_⟩:=I.hok _ _ ha;exact⟨_,B1,⟨o,h1,h2.1⟩,λz=>nomatch z⟩
 |vG C=>
  cases p with
  |of q=>
   cases q with
   |vG k _ ha=>cases r;obtain⟨⟨o,h1,h2,h3,h4⟩,_⟩:=I.hok _ _ ha;exact⟨_,qY k,⟨o,h1,h2,h3,by rw[h4];trivial⟩,λz=>nomatch z⟩
 |qB ks ds=>
  cases p with
  |of q=>
   cases q with
   |qB _ ha _ _=>cases r;obtain⟨_,_,vs,_,o,es,ep,h1,h2,_⟩:=I.hok _ _ ha;exact⟨_,B1,⟨o,h1,h2.1⟩,λz=>nomatch z⟩
theorem vN:∀{ns:List String}{us:List Value},Vals (ns.map V.ty) us->us=ns.map Value.type
 | [],_,r=>by rw[List.map_nil]at r;cases r;rfl
 |n::ns,_,r=>by
  rw[List.map_cons]at r;cases r with
  |cons r1 r2=>cases r1;rw[vN r2];rfl
theorem xO:dz X (.builtin "isinstance") (λxs H Q=>∃(x:V) (p:Addr) (ns:List String) (M:List Addr) (d:D) (b:Bool),xs=[x,.ref p]/\Pk X.K M H d x/\eZ X.K H p (ns.map V.ty)/\PySem.W.kitAny X.K (Ed d) (ns.map Value.type)=some b/\Q (.bl b) H):=by intro ah s σ H xs us Q I r h;obtain⟨x,p,ns,M,d,b,rfl,pk,hp,e,q⟩:=h;obtain⟨u,w',rfl,r1,r2⟩:=vals2 r;cases r2;obtain⟨Hh,Zk,hH,hx⟩:=MF I pk r1;obtain⟨its,rv,⟨o,h1,h2,n,h3⟩,_⟩:=I.tuple hp;rw[vN rv]at h3;obtain⟨c,dd,dt,sl⟩:=o;have h2':c=.type "tuple" :=h2;have h3':dt=.seq (ns.map Value.type).toArray n:=h3;subst h2' h3';exact PySem.W.kia_tup Zk I.qF hH h1 e hx λtk=>⟨.bl b,H,I.tok tk,rfl,q⟩
structure Wu(X:Cx)(T:Str)(n:String):Prop where
 gl:Gl X T
 mg:X.mg T=none
 bt:bootBuiltins T=some (.type n)
 nn:T≠ "__name__"
 db:(T==("__debug__":Str))=false
inductive k9(X:Cx):List Expr->List String->Prop
 |nil:k9 X [] []
 |cons {T:Str}{n:String}{p:Pos}{es:List Expr}{ns:List String}:Wu X T n->k9 X es ns->k9 X (.Name T p::es) (n::ns)
theorem k9.pa(h:k9 X es ns):∃t,PA X es t/\∀σ H (Q:List V->Hp->Prop),Q (ns.map V.ty) H->t σ H Q:=by
 induction h with
 |nil=>exact⟨_,oV,λσ H Q q=>q⟩
 |@cons T n p es ns h _ ih=>obtain⟨t,q,k⟩:=ih;have pT:PE X (.Name T p) (tC (.ty n)):=vo h.gl h.mg h.bt rfl h.nn h.db;exact⟨_,eK pT q rfl,λσ H Q hq=>k σ H _ hq⟩
theorem GK(hK:z.K=X.K)(h:aq X z a g r1 g1)(hp:pk r1 g1=some d)(ht:k9 X es ns)(hl:ns.length<=16777216)(he:∀M H v,Pk X.K M H d v->PySem.W.kitAny X.K (Ed d) (ns.map Value.type)=some b)
  (hg:Gl X "isinstance") (hm:X.mg "isinstance"=none) (hv:bootBuiltins "isinstance"=some (.builtin "isinstance"))
  (hs:starEach [a,.Tuple es k pT] X.env=(false,eval a X.env)::starEach [.Tuple es k pT] X.env):aq X z (.Call (.Name "isinstance" p) [a,.Tuple es k pT] [] pos) g (.dat (.bl b)) g1:=by
 obtain⟨t,q,kk⟩:=h;obtain⟨tt,qt,kt⟩:=ht.pa;refine⟨_,kG xO hg hm hv (eK q (eK (tT qt) oV) hs) ⋯ ⋯ hs,λσ As M H Q s kq=>kk σ As M H _ s λv H' au M' s' st R=>kt σ H' _ ⟨by rw[gL];exact jG hl,λa ha=>?_⟩⟩
 have s2:=s'.laid (o:=.tup (ns.map V.ty)) ha;have pp:=s'.pk (ao.refl _ _) R hp;refine⟨v,a,ns,M',d,b,rfl,?_,.inl (.inl aD),he _ _ _ (hK▸pp),kq _ _ au M' s2 (st.trans (ao.laid ha)) (.bl b)⟩;rw[<- hK];cases pp with
 |of r=>exact .of (r.stay (ao.laid ha))
 |lst e1 e2=>exact .lst (by rw[az (aG e1 ha)];exact e1) (e2.stay (ao.laid ha))
theorem xP(hN:X.N[i]?=some x)(hv:Ea X.env.scope x)(hd:(x==("__debug__":Str))=false)(cM:(x==("__classdict__":Str))=false)(hg:g[i]?=some (.own l0))(h:bW X z [e] g [.dat (.lst m)] g1)(nM:g1[i]?=some (.own l))(hl:l.length+m.length<=16777216)
  (hbase:attributeBase (.Name x pn) "extend" X.env (eval (.Name x pn) X.env)=eval (.Name x pn) X.env)
  (hfew:((backTo bM (starEach [e] X.env)).all (λx=>!x.1)&&(backToKw bM (keywordEach [] X.env)).all (λx=>x.1.isSome)
   && decide ([e].length+([]:List Keyword).length+(if ([]:List Keyword).isEmpty then 0 else 1)<30))=true)
  (hline:(eW.endLine==bM.line)=true) (hs:starEach [e] X.env=(false,eval e X.env)::starEach [] X.env):aq X z (.Call (.Attribute (.Name x pn) "extend" eW) [e] [] bM) g (.dat .non) (g1.set i (.own (l++m))):=by
 obtain⟨t,q,k⟩:=h;refine⟨_,zF BF PySem.F.slot_list_extend PySem.F.type_list_extend xq (je hN hv hd cM) q hbase hfew hline hs rfl,λσ As M H Q s kk=>?_⟩
 obtain⟨a,xs,e1,e2,e3,e4⟩:=s.sl.at hg;refine⟨.ref a,e1,.inl ⟨rfl,xs,bU.of e3⟩,k σ As M H _ s λvs H' au M' s' st R=>?_⟩
 obtain⟨b,ys,f1,f2,f3,f4⟩:=s'.sl.at nM;rw[e1]at f1;injection f1 with f1;injection f1 with f1;injection f1 with f1;subst f1;cases R with
 |dat r R=>
  cases R;cases r with
  |@lst _ c zs hc rr=>
   refine⟨a,c,ys,zs,rfl,rfl,f3,hc.2,by rw[<- f4.length,<- rr.length,oC];exact hl,?_⟩
   obtain⟨s2,aM⟩:=s'.write nM e1 (f4.append rr);exact kk _ _ au M' s2 (st.trans aM) .non
end
noncomputable def ins(a:Int):List Int->List Int
 | []=>[a]
 |b::l=>if a<=b then a::b::l else b::ins a l
def dD:List Int->List Int
 | []=>[]
 |a::l=>ins a (dD l)
theorem lg(a:Int):∀l:List Int,(ins a l).Perm (a::l)
 | []=>xI _
 |b::l=>by
  unfold ins;split
  . exact xI _
  . exact ((lg a l).cons b).trans (List.Perm.swap a b l)
theorem g6:∀l:List Int,(dD l).Perm l
 | []=>xI _
 |a::l=>(lg a _).trans ((g6 l).cons a)
theorem lq(a:Int):∀{l:List Int},l.Pairwise (· <= ·)->(ins a l).Pairwise (· <= ·)
 | [],_=>List.pairwise_singleton _ _
 |b::l,h=>by
  obtain⟨h1,h2⟩:=v6.mp h;unfold ins;split
  .
   rename_i hab;refine v6.mpr ⟨λx hx=>?_,h⟩
   rcases dS.mp hx with rfl |hx
   . exact hab
   . exact Int.le_trans hab (h1 x hx)
  .
   rename_i hab;refine v6.mpr ⟨λx hx=>?_,lq a h2⟩
   rcases dS.mp ((lg a l).mem_iff.mp hx)with rfl |hx
   . lia
   . exact h1 x hx
theorem iM:∀l:List Int,(dD l).Pairwise (· <= ·)
 | []=>List.Pairwise.nil
 |a::l=>lq a (iM l)
theorem ur(hp:m.Perm l)(hs:m.Pairwise (· <= ·)):m=dD l:=
 (hp.trans (g6 l).symm).eq_of_pairwise (λx y _ _ h1 h2=>Int.le_antisymm h1 h2) hs (iM l)
section
theorem gJ(hl:IsTup s.heap l vs.toArray)
  (h:Q vs { s with heap:=(s.heap.push (seqObj "list" #[] 0)).update s⁻¹ (Obj.mapSeq (· ++ vs.toArray))}) (tK:vs.length<=sizeLine) :
  wpAny (model prog w) A (collect (.ref l)) Q E s:=by
 obtain⟨o,ho,hc,n,hd⟩:=id hl;unfold collect;refine aS (wpAny_runValue (x0 entry_proto_collect' ?_));show wpAny _ _ (do again (.builtin "list.__iadd__" ⟨[<- newList [],.ref l],[]⟩)) _ _ s
 refine aS (BH (bP ⟨Code.quiet_builtin _ (by decide +kernel),x0 entry_list_iadd' ?_⟩))
 show wpAny _ _ (Builtin.List.listExtendWith (.ref s⁻¹) (.ref l) (.ref s⁻¹)) _ _ { s with heap:=s.heap.push (seqObj "list" #[] 0)};unfold Builtin.List.listExtendWith;have ho':(s.heap.push (seqObj "list" #[] 0)).get? l=some o:=a9 _ ho;refine aS (AJ (T:= "tuple") ⟨o,ho',hc⟩ ?_);have ht:(Value.type "tuple" == Value.type "tuple")=true:=by rfl
 rw[fN (by rw[ht];simp)]
 refine aS (listItems_at ho' hd ?_);refine aS (listItems_at (xs:=#[]) (n:=0) (eC _ rfl) rfl ?_);rw[fI ⋯];refine aS (listUpdate_at (xs:=#[]) (n:=0) (eC _ rfl) rfl ?_ (nV _) (by show (#[]++vs.toArray).size<=sizeLine+1;simp only[Array.size_append,dA,AF];lia))
 refine bP ?_;show wpAny (model prog w) A (do
   let o <- load s⁻¹
   match o.data with
   |.seq xs _=>pure xs.toList
   |_=>unsupported "internal:collect") Q E { s with heap:=(s.heap.push (seqObj "list" #[] 0)).update s⁻¹ (Obj.mapSeq (· ++ vs.toArray))}
 refine aS (wpAny_load (get?_update_seq (eC _ rfl) _) ?_);show wpAny _ _ (pure ((#[]:Array Value)++vs.toArray).toList) Q E _;rw[show ((#[]:Array Value)++vs.toArray).toList=vs by simp]
 exact bP h
theorem pN(hl:IsTup s.heap l vs.toArray)(hI:IntsAre vs ns)(h64:vs.length<64)
  (h:∀(out:Array Value) (ns':List Int),IntsAre out.toList ns'->ns'.Perm ns->ns'.Pairwise (· <= ·)->Q (.ref (s⁻¹+1)) { s with heap:=sortedAll s.heap vs out}) :
  wpAny (model prog w) A (call (.builtin "sorted") [.ref l]) Q E s:=by
 refine A6 kind_sorted plain_sorted entry_sorted (args_sorted1 _) ?_;unfold Builtin.«sorted»;refine aS (m:=checkCount "sorted" 1 1 _) (bP ?_);refine aS (gJ hl ?_ (by rw[oC];lia))
 refine aS (BH ?_);have tK:((s.heap.push (seqObj "list" #[] 0)).update s⁻¹ (Obj.mapSeq (· ++ vs.toArray))).objs.size=s⁻¹+1:=by rw[Heap.size_update,size_push']
 have T8:(((s.heap.push (seqObj "list" #[] 0)).update s⁻¹ (Obj.mapSeq (· ++ vs.toArray))).push (seqObj "list" vs.toArray 0)).get? (s⁻¹+1)=some (seqObj "list" vs.toArray 0):=by rw[<- tK];exact eC _ rfl
 show wpAny _ _ _ _ _ { s with heap:=((s.heap.push (seqObj "list" #[] 0)).update s⁻¹ (Obj.mapSeq (· ++ vs.toArray))).push (seqObj "list" vs.toArray 0)};rw[tK];refine aS (i7 (mE slot_list_sort ⟨_,T8,rfl⟩ entry_list_sort (list_sort_tree T8 hI h64 λout ns' a1 a2 a3=>⟨_,rfl,?_⟩) (args_list_sort _)))
 exact bP ⟨_,rfl,h out ns' a1 a2 a3⟩
end
section
theorem rz:dz X (.builtin "sorted") (λxs H Q=>∃p ns,xs=[.ref p]/\(bU X.K H p (ns.map V.int)\/eZ X.K H p (ns.map V.int))/\ns.length<64/\∀q,H q=none->Q (.ref q) (upd H q (.lst ((dD ns).map V.int)))):=by
 intro ah s σ H xs us Q I r h;obtain⟨p,ns,rfl,hq,hl,q⟩:=h;obtain⟨u,rfl,rx⟩:=vals1 r;cases rx;have fin:∀(vs:List Value) (out:Array Value) (ns':List Int),IntsAre out.toList ns'->ns'.Perm ns->ns'.Pairwise (· <= ·)->EP X ah σ Q (.ref (s⁻¹+1)) { s with heap:=sortedAll s.heap vs out}:=λvs out ns' a1 a2 a3=>by
  have e:=ur a2 a3;subst e;obtain⟨ep,he⟩:=sortedAll_at s.heap vs out;have aF:(dD ns).length=ns.length:=(g6 ns).length_eq;refine⟨.ref (s⁻¹+1),_,I.laid (t':=s.toks) (o:=.lst ((dD ns).map V.int)) (λb o e=>sortedAll_old e) (CS _) ?_,rfl,q _ (I.hok.fresh (CS _))⟩
  refine⟨by rw[gL,aF,oC];lia,out.toList,ep,jh a1,?_⟩
  rw[he]
 rcases hq with hq |hq
 . obtain⟨its,r',pl,hz⟩:=I.list hq;have aF:=r'.length;rw[gL]at aF;exact sorted_ints pl.isList (intsAre_of r') ⋯ λout ns' a1 a2 a3=>fin its out ns' a1 a2 a3
 . obtain⟨its,r',pl,hz⟩:=I.tuple hq;have aF:=r'.length;rw[gL]at aF;exact pN pl (intsAre_of r') ⋯ λout ns' a1 a2 a3=>fin its out ns' a1 a2 a3
theorem nR{K:Frag}{M:List Addr}{H:Hp}:∀ns:List Int,aC K M H (ns.map D.int) (ns.map V.int)
 | []=>.nil
 |n::ns=>.cons (.int n) (nR ns)
theorem xQ(hK:z.K=X.K)(h:eL d=some l)(hi:bA l=some ns)(hl:ns.length<64):CallD X z (.builtin "sorted") [d] (.new ((dD ns).map .int)):=by
 refine⟨_,rz,λg σ As M H vs Q s p k=>?_⟩
 obtain⟨v,rfl,pv⟩:=p.one;have fin:∀q,H q=none->Q (.ref q) (upd H q (.lst ((dD ns).map V.int))):=λq hq=>k _ _ As (q::M) (s.aK hq) (ao.aK hq) ⟨q,_,rfl,dC,λhA=>s.fresh hq (s.sub q hA),s.bQ hq,aD,nR _⟩
 cases d with
 |lst m=>cases h;obtain⟨a,xs,rfl,e1,e2⟩:=pv.list;have:=bE e2 hi;subst this;exact⟨a,ns,rfl,.inl (bU.of e1),hl,fin⟩
 |tup m=>cases h;obtain⟨a,xs,rfl,e1,e2⟩:=pv.tup;have:=bE e2 hi;subst this;exact⟨a,ns,rfl,.inr (hK▸e1.sq),hl,fin⟩
 |fix m=>cases h;obtain⟨a,xs,rfl,e1,e2⟩:=pv.fix;have:=bE e2 hi;subst this;exact⟨a,ns,rfl,.inl (hK▸e1.sq),hl,fin⟩
 |_=>cases h
end
section
def RT(X:Cx)(z:Z)(e:Expr)(g:G)(lo hi:Int)(g1:G):Prop:=
 ∀(ah:List (Addr×Obj)) (s:Shared) (σ:Sg) (As M:List Addr) (H:Hp) (Post:Value->Shared->Prop),L2.Inv X ah σ H s->S z g σ As M H->
  (∀r s1 H1 aR M1 t u v,L2.Inv X ah σ H1 s1->S z g1 σ aR M1 H1->ao M H M1 H1->IsRange s1.heap r lo hi 1 t u v->Post (.ref r) s1)->wpAny (model X.prog X.w) X.A (eval e X.env) Post X.xe s
theorem bW.run(ha:bW X z es g rs g1)(I:L2.Inv X ah σ H s)(st:S z g σ As M H)
  (k:∀vs us s1 H1 aR M1,L2.Inv X ah σ H1 s1->Vals vs us->S z g1 σ aR M1 H1->ao M H M1 H1->gU z σ M1 H1 rs vs->Post us s1):wpAny (model X.prog X.w) X.A (spliced (backTo pos (starEach es X.env))) Post X.xe s:=by
 obtain⟨t,q,kt⟩:=ha;exact bI (q pos ah s σ H (λvs H1=>∃aR M1,S z g1 σ aR M1 H1/\ao M H M1 H1/\gU z σ M1 H1 rs vs) I (kt σ As M H _ st λvs H1 aR M1 s1 dc R=>⟨aR,M1,s1,dc,R⟩)) λus s1 ⟨vs,H1,I1,r1,aR,M1,q1,q2,q3⟩=>k vs us s1 H1 aR M1 I1 r1 q1 q2 q3
theorem Wv(h:bW X z [a] g [.dat (.int j)] g1)(hg:Gl X "range")(hm:X.mg "range"=none)(hs:starEach [a] X.env=[(false,eval a X.env)]):RT X z (.Call (.Name "range" p) [a] [] rp) g 0 j g1:=by
 intro ah s σ As M H Post I st k;refine Call_ (dJ I hg hm boot_range (mN (h.run I st λvs us s1 H1 aR M1 I1 r1 q1 q2 q3=>?_) hs rfl))
 cases q3 with
 |dat r R=>
  cases R;cases r;cases r1 with
  |cons r rr=>cases rr;obtain⟨t,rfl⟩:=r;exact call_range_1 (k _ _ H1 aR M1 _ _ _ (I1.kept λb o e=>a9 _ e) q1 q2 (IsRange.new ..))
noncomputable def uv(lo:Int)(n:Nat):List V:=(List.range n).map λ(k:Nat)=>V.int (lo+(k:Int))
theorem xR{lo:Int}{n:Nat}{acc:Array Value}(h:ItemsOf (λi v=>∃t,v=Value.int (lo+(i:Int) * 1) t) acc n):Vals (uv lo n) acc.toList:=by
 have key:∀(m:Nat) (l:List Value) (o:Nat),l.length=m->(∀j v,l[j]?=some v->∃t,v=Value.int (lo+((o+j:Nat):Int)) t)->Vals ((List.range' o m).map λ(k:Nat)=>V.int (lo+(k:Int))) l:=by
  intro m
  induction m with
  |zero=>intro l o hl _;cases l with
   |nil=>exact .nil
   |cons _ _=>simp at hl
  |succ m ih=>
   intro l o hl hv;cases l with
   |nil=>simp at hl
   |cons v l=>
    rw[List.range'_succ,List.map_cons];obtain⟨t,e⟩:=hv 0 v rfl;refine .cons ⟨t,by rw[e];rfl⟩ (ih l (o+1) (by simpa using hl) λj w hw=>?_)
    obtain⟨t',e'⟩:=hv (j+1) w (by simpa using hw)
    exact⟨t',by rw[e',show o+(j+1)=o+1+j by lia]⟩
 unfold uv;rw[Co];refine key n acc.toList 0 (by rw[h9];exact h.1) λj v hv=>?_
 obtain⟨t,e⟩:=h.2 j v (by rw[<- y7];exact hv)
 exact⟨t,by rw[e,BA,Int.mul_one]⟩
theorem xS{K:Frag}{M:List Addr}{H:Hp}(lo:Int)(n:Nat):aC K M H (cD lo n) (uv lo n):=by
 unfold cD uv
 induction List.range n with
 |nil=>exact .nil
 |cons k l ih=>exact .cons (.int _) ih
theorem Aq{e:Expr}{lo hi:Int}(h:RT X z e g lo hi g1)(hc:X.calm=true)(hg:Gl X "list")(hm:X.mg "list"=none)(hs:starEach [e] X.env=[(false,eval e X.env)])(h1 : -(2 ^ 62)<=lo/\lo<2 ^ 62/\-(2 ^ 62)<=hi/\hi<2 ^ 62)(hl:(hi - lo).toNat<=16777216) :
  aq X z (.Call (.Name "list" lp) [e] [] pos) g (.new (cD lo (hi - lo).toNat)) g1:=by
 refine aq.of λah s σ As M H Post I st k=>?_
 refine Call_ (dJ I hg hm (by rfl:bootBuiltins ("list":Str)=some (.type "list")) (mN ?_ hs rfl))
 rw[hs];show wpAny _ _ (spliced ((false,eval e X.env)::[])) _ _ s;refine Calls.spliced_cons (h ah s σ As M H _ I st λr s1 H1 aR M1 t u v I1 q1 q2 hr=>Calls.spliced_nil ?_)
 have hn:Builtin.Range.rangeSize lo hi 1=(((hi - lo).toNat:Nat):Int):=by rw[rangeSize_one];split <;> lia
 refine call_list_range (I1.ok.hd hc) hr (small_one h1.1 h1.2.1 h1.2.2.1 h1.2.2.2) hn hl λh' tk acc' c' hk hS' hacc=>?_
 have hf:H1 s1⁻¹=none:=I1.hok.fresh (eA _);have s2:=q1.aK (xs:=uv lo (hi - lo).toNat) hf;have vv:=xR hacc;have I2:L2.Inv X ah σ (upd H1 s1⁻¹ (.lst (uv lo (hi - lo).toNat))) { s1 with heap:=h',toks:=tk}:=
  I1.laid (t':=tk) hk (eA _) (show cB X.prog X.w _ h' _ (.lst (uv lo (hi - lo).toNat))from⟨by rw[vv.length,h9,hacc.1];exact jG hl,acc'.toList,c',vv,by simpa using hS'⟩)
 exact k (.ref s1⁻¹) _ _ _ aR (s1⁻¹::M1) I2 rfl s2 (q2.trans (ao.aK hf)) ⟨_,_,rfl,dC,λhA=>q1.fresh hf (q1.sub _ hA),q1.bQ hf,aD,xS _ _⟩
end
noncomputable def Zv:List Value:=[.type "ValueError",.type "Exception",.type "BaseException",.type "object"]
abbrev xT(K:Frag)(C:Addr):Prop:=PySem.W.excIn K C Zv "ValueError.__new__"=true
open PySem PySem.W PyProof.Rows
noncomputable def fh{α:Type}(lt:Nat->Nat->Bool):KasT α->α
 |.ret a=>a
 |.ask i j k=>fh lt (k (lt i j))
theorem cO{α β:Type}(lt:Nat->Nat->Bool)(f:α->KasT β):∀t:KasT α,fh lt (t.bind f)=fh lt (f (fh lt t))
 |.ret _=>rfl
 |.ask i j k=>cO lt f (k (lt i j))
structure gw(α:Type) where
 lt:α->α->Bool
 X3:∀a,lt a a=false
 tr:∀a b c,lt a b=true->lt b c=true->lt a c=true
 tot:∀a b,lt a b=false->lt b a=false->a=b
namespace gw
variable{α:Type}(O:gw α)
def le(a b:α):Prop:=O.lt b a=false
variable{O}
theorem le_refl(a:α):O.le a a:=O.X3 a
theorem le_of_lt(h:O.lt a b=true):O.le a b:=by
 unfold le;cases e:O.lt b a
 . rfl
 . have:=O.tr _ _ _ h e;rw[O.X3]at this;cases this
theorem nU(h1:O.le a b)(h2:O.le b c):O.le a c:=by
 unfold le at *;cases e:O.lt c a with
 |false=>rfl
 |true=>
  exfalso;cases e1:O.lt a b with
  |true=>have:=O.tr _ _ _ e e1;rw[h2]at this;cases this
  |false=>have hab:=O.tot a b e1 h1;subst hab;rw[h2]at e;cases e
theorem vO(h1:O.le a b)(h2:O.le b a):a=b:=O.tot a b h2 h1
end gw
section
variable{α:Type}
noncomputable def cA(key:Nat->α)(p:Array Nat)(i:Nat):α:=key (p.getD i 0)
def gA(O:gw α)(key:Nat->α)(p:Array Nat)(n:Nat):Prop:=∀i j,i<=j->j<n->O.le (cA key p i) (cA key p j)
def fH(O:gw α)(key:Nat->α)(p:Array Nat)(n:Nat):Prop:=∀i j,i<=j->j<n->O.le (cA key p j) (cA key p i)
noncomputable def j6(O:gw α)(key:Nat->α)(i j:Nat):Bool:=O.lt (key i) (key j)
theorem getD_some{p q:Array Nat}{i j:Nat}(h:p[i]?=q[j]?):p.getD i 0=q.getD j 0:=by rw[oT,oT,h]
theorem j7{p:Array Nat}{i j:Nat}(hj:j<=p.size)(k:Nat):cA key (kas_rev p i j) k=if i<=k/\k<j then cA key p (i+j - 1 - k)else cA key p k:=by
 have e:=getElem?_mirror_all (i:=i) hj k;unfold cA kas_rev;split
 . rename_i h;rw[fN h]at e;rw[getD_some e]
 . rename_i h;rw[fI h]at e;rw[getD_some e]
theorem GL{p:Array Nat}{src d:Nat}(hs:src<p.size)(hd:d<=src)(k:Nat):cA key (bubble p src d) k=if k=src - d then cA key p src else if src - d<k/\k<=src then cA key p (k - 1)else cA key p k:=by
 have e:=getElem?_bubble hs d hd k;unfold cA;by_cases h1:k=src - d
 . rw[fN h1]at e ⊢;rw[getD_some e]
 .
  rw[fI h1]at e ⊢
  by_cases h2:src - d<k/\k<=src
  . rw[fN h2]at e ⊢;rw[getD_some e]
  . rw[fI h2]at e ⊢;rw[getD_some e]
theorem gA.ext(h:gA O key p n)(hl:O.lt (cA key p n) (cA key p (n - 1))=false)(h1:1<=n):gA O key p (n+1):=by
 intro i j hij hj;by_cases e:j<n
 . exact h i j hij e
 .
  have:j=n:=by lia
  subst this;by_cases e2:i=j
  . subst e2;exact gw.le_refl _
  . exact gw.nU (h i (j - 1) ⋯ ⋯) hl
theorem uw:∀(f n:Nat),1<=n->gA O key p n->∃m,fh (j6 O key) (kas_asc p f n)=m/\n<=m/\m<=n+f/\gA O key p m/\(m<n+f->O.lt (cA key p m) (cA key p (m - 1))=true)
 | 0,n,_,h=>⟨n,rfl,eA _,eA _,h,λz=>absurd z (tJ _)⟩
 |f+1,n,h1,h=>by
  unfold kas_asc;show ∃m,fh (j6 O key) (if j6 O key (p.getD n 0) (p.getD (n - 1) 0)=true then KasT.ret n else kas_asc p f (n+1))=m/\_
  cases e:j6 O key (p.getD n 0) (p.getD (n - 1) 0)with
  |true=>exact⟨n,rfl,eA _,by lia,h,λ_=>e⟩
  |false=>obtain⟨m,q1,q2,q3,q4,q5⟩:=uw f (n+1) ⋯ (h.ext e h1);exact⟨m,q1,by lia,by lia,q4,λz=>q5 ⋯⟩
theorem fH.ext(h:fH O key p n)(hl:O.le (cA key p n) (cA key p (n - 1)))(h1:1<=n):fH O key p (n+1):=by
 intro i j hij hj;by_cases e:j<n
 . exact h i j hij e
 .
  have:j=n:=by lia
  subst this;by_cases e2:i=j
  . subst e2;exact gw.le_refl _
  . exact gw.nU hl (h i (j - 1) ⋯ ⋯)
theorem fH.MJ(h:fH O key p n)(hk:∀k,cA key p' k=cA key p k):fH O key p' n:=λi j a b=>by rw[hk,hk];exact h i j a b
def RV(key:Nat->α)(p:Array Nat)(n q:Nat):Prop:=q+1<=n/\∀k,n - (q+1)<=k->k<n->cA key p k=cA key p (n - 1)
theorem vP(h:RV key p n q)(hz:n<=p.size)(k:Nat):cA key (kas_rev p (n - (q+1)) n) k=cA key p k:=by
 rw[j7 hz];split
 . rename_i hk;have hq:=h.1;rw[h.2 k hk.1 hk.2,h.2 (n - (q+1)+n - 1 - k) ⋯ ⋯]
 . rfl
theorem j8:∀(f:Nat) (p:Array Nat) (n q:Nat),1<=n->n+f<=p.size->fH O key p n->RV key p n q->
  ∃p' m q',fh (j6 O key) (kas_desc f p n q)=(p',m,q')/\p'.Perm p/\n<=m/\m<=n+f/\fH O key p' m/\RV key p' m q'
 | 0,p,n,q,_,_,h,hq=>⟨p,n,q,rfl,BI _,eA _,eA _,h,hq⟩
 |f+1,p,n,q,h1,hz,h,hq=>by
  unfold kas_desc;show ∃p' m q',fh (j6 O key) (if j6 O key (p.getD n 0) (p.getD (n - 1) 0)=true then (if q > 0 then kas_desc f (kas_rev p (n - (q+1)) n) (n+1) 0 else kas_desc f p (n+1) 0)
   else .ask (p.getD (n - 1) 0) (p.getD n 0) λd=>if d=true then .ret (p,n,q)else kas_desc f p (n+1) (q+1))=(p',m,q')/\_
  cases e:j6 O key (p.getD n 0) (p.getD (n - 1) 0)with
  |true=>
   rw[fN rfl];have hl:O.le (cA key p n) (cA key p (n - 1)):=gw.le_of_lt e;have one:∀p':Array Nat,RV key p' (n+1) 0:=λp'=>⟨by lia,λk a b=>by have:k=n:=⋯;subst this;rfl⟩
   by_cases X4:q > 0
   .
    rw[fN X4];have hk:=vP hq (by lia:n<=p.size)
    have hF:fH O key (kas_rev p (n - (q+1)) n) (n+1):=(h.ext hl h1).MJ hk;obtain⟨p',m,q',r1,r2,r3,r4,r5,r6⟩:=j8 f (kas_rev p (n - (q+1)) n) (n+1) 0 ⋯ (by rw[kas_rev_size];lia) hF (one _)
    exact⟨p',m,q',r1,r2.trans (mirror_perm _ _ _ _),by lia,by lia,r5,r6⟩
   . rw[fI X4];obtain⟨p',m,q',r1,r2,r3,r4,r5,r6⟩:=j8 f p (n+1) 0 ⋯ ⋯ (h.ext hl h1) (one _);exact⟨p',m,q',r1,r2,by lia,by lia,r5,r6⟩
  |false=>
   rw[fI kS];show ∃p' m q',fh (j6 O key) (if j6 O key (p.getD (n - 1) 0) (p.getD n 0)=true then .ret (p,n,q)else kas_desc f p (n+1) (q+1))=(p',m,q')/\_
   cases e2:j6 O key (p.getD (n - 1) 0) (p.getD n 0)with
   |true=>exact⟨p,n,q,rfl,BI _,eA _,by lia,h,hq⟩
   |false=>
    rw[fI kS];have he:cA key p n=cA key p (n - 1):=O.tot _ _ e e2;have hq':RV key p (n+1) (q+1):=⟨by have:=hq.1;lia,λk a b=>by
     show cA key p k=cA key p n;by_cases hk:k=n
     . subst hk;rfl
     .
      rw[he];exact hq.2 k ⋯ ⋯⟩
    obtain⟨p',m,q',r1,r2,r3,r4,r5,r6⟩:=j8 f p (n+1) (q+1) ⋯ ⋯ (h.ext (by rw[he];exact gw.le_refl _) h1) hq'
    exact⟨p',m,q',r1,r2,by lia,by lia,r5,r6⟩
theorem Ar(h:fH O key p n)(hz:n<=p.size):gA O key (kas_rev p 0 n) n:=λi j a b=>by
 rw[j7 hz,j7 hz,fN ⟨by lia,by lia⟩,fN ⟨by lia,by lia⟩]
 exact h _ _ ⋯ ⋯
theorem rA(h1:1<=n)(hn:n<=nrem)(hz:nrem<=p.size)(h:fH O key p n):∃m p',fh (j6 O key) (kas_tail3 n nrem p)=(m,p')/\p'.Perm p/\1<=m/\m<=nrem/\gA O key p' m:=by unfold kas_tail3;rw[cO];obtain⟨m,q1,q2,q3,q4,_⟩:=uw (O:=O) (key:=key) (p:=kas_rev p 0 n) (nrem - n) n h1 (Ar h ⋯);rw[q1];exact⟨m,_,rfl,mirror_perm _ _ _ _,by lia,by lia,q4⟩
theorem jI(h1:1<=n)(hn:n+1<=nrem)(hz:nrem<=p.size)(h:fH O key p (n+1)):∃m p',fh (j6 O key) (kas_descPart n nrem p)=(m,p')/\p'.Perm p/\1<=m/\m<=nrem/\gA O key p' m:=by
 unfold kas_descPart;rw[cO];obtain⟨p',m,q',r1,r2,r3,r4,r5,r6⟩:=j8 (O:=O) (key:=key) (nrem - (n+1)) p (n+1) 0 ⋯ ⋯ h ⟨by lia,λk a b=>by have:k=n:=⋯;subst this;rfl⟩
 rw[r1];dsimp only;have hs:p'.size=p.size:=r2.size_eq;by_cases hq:q' > 0
 .
  rw[fN hq];have hk:=vP r6 (by lia:m<=p'.size)
  obtain⟨m',p2,s1,s2,s3,s4,s5⟩:=rA (nrem:=nrem) ⋯ ⋯ (by rw[kas_rev_size];lia) (r5.MJ hk)
  exact⟨m',p2,s1,(s2.trans (mirror_perm _ _ _ _)).trans r2,s3,s4,s5⟩
 . rw[fI hq];obtain⟨m',p2,s1,s2,s3,s4,s5⟩:=rA (nrem:=nrem) ⋯ ⋯ ⋯ r5;exact⟨m',p2,s1,s2.trans r2,s3,s4,s5⟩
theorem Au(h1:1<=n)(hz:n<=p.size):∃m p',fh (j6 O key) (kas_count n p)=(m,p')/\p'.Perm p/\1<=m/\m<=n/\gA O key p' m:=by
 unfold kas_count;rw[cO];obtain⟨m,q1,q2,q3,q4,q5⟩:=uw (O:=O) (key:=key) (p:=p) (n - 1) 1 (eA _) (λi j a b=>by have e1:i=0:=⋯;have e2:j=0:=⋯;subst e1;subst e2;exact gw.le_refl _)
 rw[q1];by_cases e1:(m==n)=true
 . rw[fN e1];exact⟨m,p,rfl,BI _,q2,by lia,q4⟩
 .
  rw[fI e1];have hm:m<n:=by
   have:m≠n:=λz=>e1 (by rw[z];exact t6 _)
   lia
  have iZ:=q5 ⋯;by_cases e2:m > 1
  .
   rw[fN e2];show ∃m' p',fh (j6 O key) (if j6 O key (p.getD 0 0) (p.getD (m - 1) 0)=true then KasT.ret (m,p)else kas_descPart m n (kas_rev p 0 m))=(m',p')/\_
   cases e3:j6 O key (p.getD 0 0) (p.getD (m - 1) 0)with
   |true=>exact⟨m,p,rfl,BI _,q2,by lia,q4⟩
   |false=>
    rw[fI kS];have Ur:∀k,k<m->cA key p k=cA key p (m - 1):=λk hk=>by
     refine gw.vO (O:=O) (q4 k (m - 1) ⋯ ⋯) ?_;exact gw.nU (show O.le (cA key p (m - 1)) (cA key p 0)from e3) (q4 0 k ⋯ hk)
    have hk:∀k,cA key (kas_rev p 0 m) k=cA key p k:=λk=>by
     rw[j7 ⋯];split
     . rw[Ur _ ⋯,Ur k ⋯]
     . rfl
    have hF:fH O key (kas_rev p 0 m) (m+1):=by
     refine fH.MJ (p:=p) (fH.ext (λi j a b=>?_) (gw.le_of_lt iZ) ⋯) hk
     rw[Ur i ⋯,Ur j b];exact gw.le_refl _
    obtain⟨m',p2,s1,s2,s3,s4,s5⟩:=jI (O:=O) (key:=key) (p:=kas_rev p 0 m) q2 (by lia:m+1<=n) (by rw[kas_rev_size];exact hz) hF
    exact⟨m',p2,s1,s2.trans (mirror_perm _ _ _ _),s3,s4,s5⟩
  .
   rw[fI e2];have hF:fH O key p (m+1):=fH.ext (λi j a b=>by have e1:i=0:=⋯;have e2:j=0:=⋯;subst e1;subst e2;exact gw.le_refl _) (gw.le_of_lt iZ) q2
   exact jI q2 ⋯ hz hF
theorem lu(hR:gA O key p k):∀(f l r:Nat),l<=r->r<=k->r - l<=f->(∀i,i<l->O.le (cA key p i) (cA key p k))->(∀i,r<=i->i<k->O.lt (cA key p k) (cA key p i)=true)->
  ∃m,fh (j6 O key) (kas_place p k f l r)=m/\m<=k/\(∀i,i<m->O.le (cA key p i) (cA key p k))/\∀i,m<=i->i<k->O.lt (cA key p k) (cA key p i)=true
 | 0,l,r,h1,h2,h3,h4,h5=>⟨l,rfl,by lia,h4,λi a b=>h5 i ⋯ b⟩
 |f+1,l,r,h1,h2,h3,h4,h5=>by
  unfold kas_place;by_cases e:l ≥ r
  . rw[fN e];exact⟨l,rfl,by lia,h4,λi a b=>h5 i ⋯ b⟩
  .
   rw[fI e];show ∃m,fh (j6 O key) (if j6 O key (p.getD k 0) (p.getD ((l+r) / 2) 0)=true then kas_place p k f l ((l+r) / 2)else kas_place p k f ((l+r) / 2+1) r)=m/\_
   cases e2:j6 O key (p.getD k 0) (p.getD ((l+r) / 2) 0)with
   |true=>
    rw[fN rfl];refine lu hR f l ((l+r) / 2) ⋯ ⋯ ⋯ h4 λi a b=>?_
    by_cases hi:r<=i
    . exact h5 i hi b
    .
     have q:O.le (cA key p ((l+r) / 2)) (cA key p i):=hR _ _ a b;cases e3:O.lt (cA key p k) (cA key p i)with
     |true=>rfl
     |false=>
      have:=gw.nU q (show O.le (cA key p i) (cA key p k)from e3)
      have Uj:O.lt (cA key p k) (cA key p ((l+r) / 2))=true:=e2;unfold gw.le at this;rw[this]at Uj;cases Uj
   |false=>
    rw[fI kS];refine lu hR f ((l+r) / 2+1) r ⋯ h2 ⋯ (λi a=>?_) h5
    exact gw.nU (hR i ((l+r) / 2) ⋯ ⋯) e2
theorem Av:∀(f:Nat) (p:Array Nat) (k:Nat),k+f<=p.size->gA O key p k->∃p',fh (j6 O key) (kas_bin f p k)=p'/\p'.Perm p/\gA O key p' (k+f)
 | 0,p,k,_,h=>⟨p,rfl,BI _,h⟩
 |f+1,p,k,hz,h=>by
  unfold kas_bin;rw[cO];obtain⟨l,q1,q2,q3,q4⟩:=lu h k 0 k (nV _) (eA _) ⋯ (λi a=>absurd a (l7 _)) (λi a b=>absurd (Nat.lt_of_le_of_lt a b) (tJ _))
  rw[q1];have hk:=λi=>GL (key:=key) (p:=p) (src:=k) (d:=k - l) ⋯ ⋯ i
  have hR:gA O key (bubble p k (k - l)) (k+1):=λi j a b=>by
   rw[hk,hk];have e:k - (k - l)=l:=by lia
   rw[e];by_cases i1:i=l
   .
    rw[fN i1];by_cases j1:j=l
    . rw[fN j1];exact gw.le_refl _
    .
     rw[fI j1,fN ⟨by lia,by lia⟩]
     exact gw.le_of_lt (q4 (j - 1) ⋯ ⋯)
   .
    rw[fI i1];by_cases i2:l<i/\i<=k
    .
     rw[fN i2,fI ⋯,fN ⟨by lia,by lia⟩]
     exact h _ _ ⋯ ⋯
    .
     rw[fI i2];by_cases j1:j=l
     . rw[fN j1];exact q3 i ⋯
     .
      rw[fI j1];by_cases j2:l<j/\j<=k
      . rw[fN j2];exact h _ _ ⋯ ⋯
      . rw[fI j2];exact h _ _ a ⋯
  obtain⟨p',s1,s2,s3⟩:=Av f (bubble p k (k - l)) (k+1) (by rw[bubble_size];lia) hR
  exact⟨p',s1,s2.trans (bubble_perm _ _ _),by rw[show k+(f+1)=k+1+f by lia];exact s3⟩
theorem GP(h1:1<=n):∃p,fh (j6 O key) (kas_sort n)=p/\p.Perm (List.range n).toArray/\gA O key p n:=by
 unfold kas_sort;rw[cO];obtain⟨m,p,q1,q2,q3,q4,q5⟩:=Au (O:=O) (key:=key) (p:=(List.range n).toArray) h1 ⋯;rw[q1];dsimp only;have hs:p.size=n:=by rw[q2.size_eq];simp
 have e:max m 1=m:=by lia
 rw[e];by_cases hm:m<n
 . rw[fN hm];obtain⟨p',s1,s2,s3⟩:=Av (O:=O) (key:=key) (n - m) p m ⋯ q5;exact⟨p',s1,s2.trans q2,by rw[show m+(n - m)=n by lia]at s3;exact s3⟩
 .
  rw[fI hm];have:m=n:=by lia
  subst this;exact⟨p,rfl,q2,q5⟩
end
noncomputable def vQ{α:Type}(n:Nat)(P:α->Prop):KasT α->Prop
 |.ret a=>P a
 |.ask i j k=>i<n/\j<n/\∀b,vQ n P (k b)
theorem vQ.bind{α β:Type}{n:Nat}{P:α->Prop}{Q:β->Prop}{f:α->KasT β}:∀{t:KasT α},vQ n P t->(∀a,P a->vQ n Q (f a))->vQ n Q (t.bind f)
 |.ret a,h,hf=>hf a h
 |.ask _ _ _,h,hf=>⟨h.1,h.2.1,λb=>(h.2.2 b).bind hf⟩
theorem rB{α:Type}{n:Nat}{P:α->Prop}{lt:Nat->Nat->Bool}{cmp:Nat->Nat->(Bool->Shared->Prop)->Shared->Prop}{Q:α->Shared->Prop}{s:Shared}(hc:∀i j C,i<n->j<n->C (lt i j) s->cmp i j C s):∀t:KasT α,vQ n P t->Q (fh lt t) s->t.kasWp cmp Q s
 |.ret _,_,h=>h
 |.ask i j k,ok,h=>hc i j _ ok.1 ok.2.1 (rB hc (k (lt i j)) (ok.2.2 _) h)
def lz(n:Nat)(p:Array Nat):Prop:=0<n/\∀x∈p.toList,x<n
theorem lz.at(h:lz n p)(i:Nat):p.getD i 0<n:=by
 rw[oT];cases e:p[i]? with
 |none=>exact h.1
 |some x=>exact h.2 x (by rw[yY]at e;obtain⟨hi,rfl⟩:=e;simp)
theorem lz.perm(h:lz n p)(e:p'.Perm p):lz n p':=⟨h.1,λx hx=>h.2 x ((y0.mp e).mem_iff.mp hx)⟩
theorem lz.rev(h:lz n p)(i j:Nat):lz n (kas_rev p i j):=h.perm (mirror_perm _ _ _ _)
theorem lz.Zw(h:lz n p)(i j:Nat):lz n (bubble p i j):=h.perm (bubble_perm _ _ _)
section
theorem ux(h:lz N p):∀f n,vQ N (λ_=>True) (kas_asc p f n)
 | 0,_=>trivial
 |f+1,n=>⟨h.at _,h.at _,λb=>by cases b <;> first |exact trivial |exact ux h f (n+1)⟩
theorem j9:∀f p n q,lz N p->vQ N (λr=>lz N r.1) (kas_desc f p n q)
 | 0,_,_,_,h=>h
 |f+1,p,n,q,h=>by
  refine⟨h.at _,h.at _,λb=>?_⟩
  dsimp only;cases b with
  |true=>
   rw[fN rfl];by_cases hq:q > 0
   . rw[fN hq];exact j9 f _ _ _ (h.rev _ _)
   . rw[fI hq];exact j9 f _ _ _ h
  |false=>
   rw[fI kS];refine⟨h.at _,h.at _,λd=>?_⟩
   cases d with
   |true=>exact h
   |false=>exact j9 f _ _ _ h
theorem rC{p:Array Nat}{n nrem:Nat}(h:lz N p):vQ N (λr=>lz N r.2) (kas_tail3 n nrem p):=(ux (h.rev 0 n) _ _).bind λ_ _=>h.rev 0 n
theorem jJ{p:Array Nat}{n nrem:Nat}(h:lz N p):vQ N (λr=>lz N r.2) (kas_descPart n nrem p):=by
 refine (j9 _ _ _ _ h).bind λr hr=>?_
 by_cases hq:r.2.2 > 0
 . rw[fN hq];exact rC (lz.rev hr _ _)
 . rw[fI hq];exact rC hr
theorem Aw{p:Array Nat}{n:Nat}(h:lz N p):vQ N (λr=>lz N r.2) (kas_count n p):=by
 refine (ux h _ _).bind λm _=>?_
 by_cases e1:(m==n)=true
 . rw[fN e1];exact h
 .
  rw[fI e1];by_cases e2:m > 1
  .
   rw[fN e2];refine⟨h.at _,h.at _,λb=>?_⟩
   cases b with
   |true=>exact h
   |false=>exact jJ (h.rev _ _)
  . rw[fI e2];exact jJ h
theorem lA(h:lz N p):∀f l r,vQ N (λ_=>True) (kas_place p k f l r)
 | 0,_,_=>trivial
 |f+1,l,r=>by
  unfold kas_place;by_cases e:l ≥ r
  . rw[fN e];exact trivial
  .
   rw[fI e];refine⟨h.at _,h.at _,λb=>?_⟩
   cases b with
   |true=>exact lA h f _ _
   |false=>exact lA h f _ _
theorem Ax:∀f p k,lz N p->vQ N (λ_=>True) (kas_bin f p k)
 | 0,_,_,_=>trivial
 |f+1,p,k,h=>(lA h _ _ _).bind λl _=>Ax f _ _ (h.Zw _ _)
theorem GQ{n:Nat}(h:0<n):vQ n (λ_=>True) (kas_sort n):=by
 refine (Aw (p:=(List.range n).toArray) ⟨h,λx hx=>by simpa using hx⟩).bind λr hr=>?_
 by_cases e:r.1<n
 . rw[fN e];exact Ax _ _ _ hr
 . rw[fI e];exact trivial
end
open L2 PySem.W
section
variable{α:Type}{key:Nat->α}
noncomputable def bR(s:Shared)(a:Addr)(vs:List Value):Shared:={ s with heap:=((s.heap.update a (Obj.mapSeq λ_=>#[])).push (seqObj "tuple" vs.toArray 0)).push (seqObj "list" #[] 0)}
theorem jK(hb:b≠a)(h:s.heap.get? b=some o):(bR s a vs).heap.get? b=some o:=
 a9 _ (a9 _ ((t7 s.heap _ hb.symm).trans h))
theorem rD(ho:s.heap.get? a=some (seqObj "list" vs.toArray n))(h2:2<=vs.length)(h64:vs.length<64)
  (hk:∀Q:SortKind->Shared->Prop,Q κ (bR s a vs)->wpAny (model prog w) A (keyKind' vs.toArray) Q (λ_ _=>False) (bR s a vs))
  (hc:∀i j C,i<vs.length->j<vs.length->C (j6 O key i j) (bR s a vs)->kas_ask prog w A κ vs i j C (bR s a vs))
  (h:∀p:Array Nat,p.Perm (List.range vs.length).toArray->gA O key p vs.length->P (.done (.ret .none)) { s with heap:=sortedHeap s.heap a vs (p.toList.map λi=>vs.getD i Value.none).toArray}) :
  wpAny (model prog w) A (Builtin.«list.sort» ⟨[.ref a],[]⟩) P E s:=by
 obtain⟨e1,yT⟩:∃e1,(s.heap.update a (Obj.mapSeq λ_=>#[])).get? a=some (seqObj "list" #[] e1):=⟨_,get?_update_seq ho (λ_=>#[])⟩
 have RW:(bR s a vs).heap.get? a=some (seqObj "list" #[] e1):=a9 _ (a9 _ yT);have hz:vs.length<=sizeLine:=(by rw[oC];lia)
 rw[list_sort_plain];refine aS (listItems_at ho rfl (aS (listUpdate_at ho rfl (aS (seqEpoch_at yT rfl (aS (wpAny_newTuple (aS (BH (i7 ?_) (nV _))) (by show vs.length<=_;exact hz))))) (by simpa using hz) (nV _))))
 show wpAny (model prog w) A _ P E (bR s a vs);have hn : ¬ vs.toArray.size<2:=by rw[dA];lia
 dsimp only;rw[fI hn,fI hn];refine aS (nK (hk (λk s0=>k=κ/\s0=bR s a vs) ⟨rfl,rfl⟩) ?_ λ_ _ z=>z.elim)
 rintro _ _ ⟨rfl,rfl⟩;obtain⟨p0,q1,q2,q3⟩:=GP (O:=O) (key:=key) (n:=vs.length) ⋯;refine aS (nK (kat_run (ks:=vs) (vs:=vs) (E:=E) (Q:=λst' s'=>s'=bR s a vs/\failedOf st'=none/\(arrOf st').map (·.2)=(p0.toList.map λi=>vs.getD i Value.none).toArray) (G:=λp s'=>s'=bR s a vs/\p=p0)
  rfl h2 h64 (λp st' s' _ har hf hg=>?_) (rB hc _ (GQ ⋯) ⟨rfl,q1⟩)) ?_ λ_ _ z=>z)
 . obtain⟨rfl,rfl⟩:=hg;exact⟨rfl,hf,kat_snds rfl har⟩
 .
  rintro⟨⟨⟩,st'⟩ s' ⟨rfl,hf,hout⟩;dsimp only at hf hout ⊢
  have aF:(p0.toList.map λi=>vs.getD i Value.none).length=vs.length:=by rw[gL,h9,q2.size_eq];simp
  rw[hout];refine aS (seqEpoch_at RW rfl (aS (listUpdate_at RW rfl ?_ (nV _) (by show (List.toArray _).size<=_;rw[dA,aF];lia))))
  rw[hf];simp only[bne_self_eq_false,fA,CB];exact bP (h p0 q2 q3)
theorem vR{β:Type}:∀l:List β,(l.zip l).map (·.2)=l
 | []=>rfl
 |x::l=>by rw[AV,List.map_cons,vR l]
theorem rE(ho:s.heap.get? a=some (seqObj "list" vs.toArray n))(h2:vs.length<2)
  (h:P (.done (.ret .none)) { s with heap:=sortedHeap s.heap a vs vs.toArray}):wpAny (model prog w) A (Builtin.«list.sort» ⟨[.ref a],[]⟩) P E s:=by
 obtain⟨e1,yT⟩:∃e1,(s.heap.update a (Obj.mapSeq λ_=>#[])).get? a=some (seqObj "list" #[] e1):=⟨_,get?_update_seq ho (λ_=>#[])⟩
 have RW:(bR s a vs).heap.get? a=some (seqObj "list" #[] e1):=a9 _ (a9 _ yT);have hz:vs.length<=sizeLine:=(by rw[oC];lia)
 rw[list_sort_plain];refine aS (listItems_at ho rfl (aS (listUpdate_at ho rfl (aS (seqEpoch_at yT rfl (aS (wpAny_newTuple (aS (BH (i7 ?_) (nV _))) (by show vs.length<=_;exact hz))))) (by simpa using hz) (nV _))))
 show wpAny (model prog w) A _ P E (bR s a vs);have hn:vs.toArray.size<2:=by rw[dA];lia
 dsimp only;rw[fN hn,fN hn];refine aS (bP ?_);rw[StateT.run_pure];refine aS (bP ?_);dsimp only;have hout:(arrOf (SortSt.mk' general' (vs.toArray.zip vs.toArray) #[] 7 none)).map (·.2)=vs.toArray:=by show (vs.toArray.zip vs.toArray).map (·.2)=vs.toArray;apply Array.toList_inj.mp;simp only[Array.toList_map,Array.toList_zip,List.toList_toArray];exact vR vs
 rw[hout];refine aS (seqEpoch_at RW rfl (aS (listUpdate_at RW rfl ?_ (nV _) (by show vs.toArray.size<=_;rw[dA];lia))))
 show wpAny _ _ (if (e1 != e1)=true then _ else _) _ _ _
 rw[fI ⋯];exact bP h
noncomputable def Ay(h:Heap)(vs:List Value):Heap:=((h.push (seqObj "list" #[] 0)).update h.objs.size (Obj.mapSeq (· ++ vs.toArray))).push (seqObj "list" vs.toArray 0)
theorem nW(h:Heap)(vs:List Value):((h.push (seqObj "list" #[] 0)).update h.objs.size (Obj.mapSeq (· ++ vs.toArray))).objs.size=h.objs.size+1:=(Heap.size_update ..).trans (size_push' ..)
theorem pO(h:Heap)(vs:List Value):(Ay h vs).get? (h.objs.size+1)=some (seqObj "list" vs.toArray 0):=by have:=eC ((h.push (seqObj "list" #[] 0)).update h.objs.size (Obj.mapSeq (· ++ vs.toArray))) (o:=seqObj "list" vs.toArray 0) rfl;rw[nW]at this;exact this
theorem rF(e:h.get? b=some o):(Ay h vs).get? b=some o/\b≠h.objs.size+1:=by have hb:b<h.objs.size:=eP e;refine⟨a9 _ ?_,kA (Nat.lt_succ_of_lt hb)⟩;rw[t7 _ _ (B5 hb)];exact a9 _ e
theorem xU(hl:s.heap.IsList l vs.toArray\/IsTup s.heap l vs.toArray)(hz:vs.length<=sizeLine)
  (h:wpAny (model prog w) A.in1.in1 (Builtin.«list.sort» ⟨[.ref (s⁻¹+1)],[]⟩) (λf s'=>f=.done (.ret .none)/\Q (.ref (s⁻¹+1)) s') E { s with heap:=Ay s.heap vs}) :
  wpAny (model prog w) A (call (.builtin "sorted") [.ref l]) Q E s:=by
 refine A6 kind_sorted plain_sorted entry_sorted (args_sorted1 _) ?_;unfold Builtin.«sorted»;have go:wpAny (model prog w) A.in1 (collect (.ref l)) (λvs' s'=>vs'=vs/\s'={ s with heap:=(s.heap.push (seqObj "list" #[] 0)).update s⁻¹ (Obj.mapSeq (· ++ vs.toArray))}) E s:=by
  rcases hl with hl |hl
  . exact collect_list hl ⟨rfl,rfl⟩ hz
  . exact gJ hl ⟨rfl,rfl⟩ hz
 refine aS (m:=checkCount "sorted" 1 1 _) (bP (aS (nK go ?_ λ_ _ z=>z)))
 rintro _ _ ⟨rfl,rfl⟩;refine aS (BH ?_ hz);show wpAny _ _ _ _ _ { s with heap:=Ay s.heap _};rw[nW];refine aS (i7 (mE slot_list_sort ⟨_,pO _ _,rfl⟩ entry_list_sort (nK h (λf s' hf=>⟨_,hf.1,?_⟩) λ_ _ z=>z) (args_list_sort _)))
 exact bP ⟨_,rfl,hf.2⟩
end
theorem jo:∀a:List Int,HT.lexLt a a=false
 | []=>rfl
 |x::a=>by rw[HT.bY,fN rfl,jo a]
theorem lB:∀a b c:List Int,HT.lexLt a b=true->HT.lexLt b c=true->HT.lexLt a c=true
 | [],[],_,h,_=>by cases h
 |_::_,[],_,h,_=>by cases h
 |_,_::_,[],_,h=>by cases h
 | [],_::_,_::_,_,_=>rfl
 |x::a,y::b,z::c,h1,h2=>by
  rw[HT.bY]at h1 h2 ⊢
  by_cases e1:x=y
  .
   rw[fN e1]at h1;subst e1;by_cases e2:x=z
   .
    rw[fN e2]at h2 ⊢
    exact lB a b c h1 h2
   .
    rw[fI e2]at h2 ⊢
    exact h2
  .
   rw[fI e1]at h1;have h1':=nS h1;by_cases e2:y=z
   . rw[fN e2]at h2;subst e2;rw[fI e1];exact h1
   . rw[fI e2]at h2;have h2':=nS h2;rw[fI ⋯];exact sT ⋯
theorem jq:∀a b:List Int,HT.lexLt a b=false->HT.lexLt b a=false->a=b
 | [],[],_,_=>rfl
 | [],_::_,h,_=>by cases h
 |_::_,[],_,h=>by cases h
 |x::a,y::b,h1,h2=>by
  rw[HT.bY]at h1 h2;by_cases e:x=y
  . subst e;rw[fN rfl]at h1 h2;rw[jq a b h1 h2]
  .
   rw[fI e]at h1;rw[fI (λz=>e z.symm)]at h2
   have:=BM h1;have:=BM h2;lia
def cE:gw (List Int):=⟨HT.lexLt,jo,lB,jq⟩
section
variable{α:Type}(O:gw α)
noncomputable def xV(a:α):List α->List α
 | []=>[a]
 |b::l=>if O.lt b a then b::xV a l else a::b::l
def bh:List α->List α
 | []=>[]
 |a::l=>xV O a (bh l)
variable{O}
theorem jr(a:α):∀l:List α,(xV O a l).Perm (a::l)
 | []=>xI _
 |b::l=>by
  unfold xV;split
  . exact ((jr a l).cons b).trans (List.Perm.swap a b l)
  . exact xI _
theorem cg:∀l:List α,(bh O l).Perm l
 | []=>xI _
 |a::l=>(jr a _).trans ((cg l).cons a)
theorem jL(a:α):∀{l:List α},l.Pairwise O.le->(xV O a l).Pairwise O.le
 | [],_=>List.pairwise_singleton _ _
 |b::l,h=>by
  obtain⟨h1,h2⟩:=v6.mp h;unfold xV;cases e:O.lt b a with
  |true=>
   rw[fN rfl];refine v6.mpr ⟨λx hx=>?_,jL a h2⟩
   rcases dS.mp ((jr a l).mem_iff.mp hx)with rfl |hx
   . exact gw.le_of_lt e
   . exact h1 x hx
  |false=>
   rw[fI kS];refine v6.mpr ⟨λx hx=>?_,h⟩
   rcases dS.mp hx with rfl |hx
   . exact e
   . exact gw.nU (show O.le a b from e) (h1 x hx)
theorem cK:∀l:List α,(bh O l).Pairwise O.le
 | []=>List.Pairwise.nil
 |a::l=>jL a (cK l)
theorem g7(hp:m.Perm l)(hs:m.Pairwise O.le):m=bh O l:=
 (hp.trans (cg l).symm).eq_of_pairwise (λx y _ _ h1 h2=>gw.vO h1 h2) hs (cK l)
theorem bB{β:Type}(ks:List β)(d:β):(List.range ks.length).map (λi=>ks.getD i d)=ks:=by
 refine List.ext_getElem ⋯ λi h1 h2=>?_
 simp[eM h2]
theorem jM(hp:p.Perm (List.range ks.length).toArray)(hr:gA O (λi=>ks.getD i d) p ks.length):p.toList.map (λi=>ks.getD i d)=bh O ks:=by
 have hl:=y0.mp hp;refine g7 ((hl.map _).trans (by rw[List.toList_toArray,bB])) ?_
 rw[A7];intro i j hi hj hij;have hs:p.size=ks.length:=by rw[hp.size_eq];simp
 rw[gL,h9]at hi hj;have:=hr i j (C2 hij) ⋯;unfold cA at this;have e1:p.getD i 0=p[i]:=by simp[Array.getD,hi]
 have e2:p.getD j 0=p[j]:=by simp[Array.getD,hj]
 rw[e1,e2]at this;simpa using this
end
open L2 PySem.W
section
theorem rG(hv:IntsAre vs ns):∀{ws:List Value}{ms:List Int} (i:Nat),IntsAre ws ms->fin=decide (ns.length<ms.length)->Q (HT.lexLt ns ms) s->KatLex prog w A true fin Q (vs.zip ws) i s:=by
 induction hv with
 |nil=>
  intro ws ms i hu hf h;rw[List.zip_nil_left];refine kat_nil ?_;rw[hf];cases hu with
  |nil=>exact h
  |cons _=>exact h
 |@cons n t vs ns hv ih=>
  intro ws ms i hu hf h;cases hu with
  |nil=>rw[List.zip_nil_right];refine kat_nil ?_;rw[hf];exact h
  |@cons m t' us ms hu=>
   rw[AV];refine kat_cons (wpAny_eqBool_int (kat_go (λe=>?_) (λe=>?_)))
   .
    have e':n=m:=eq_of_beq e;refine kat_yes (ih (i+1) hu (by rw[hf];simp) ?_)
    rw[HT.bY,fN e']at h;exact h
   .
    have e':n≠m:=λq=>by rw[q]at e;simp at e
    rw[HT.bY,fI e']at h;refine kat_no ?_;cases i with
    |zero=>exact oneLt_int h
    |succ i=>exact kat_one _ _ (lt_int h)
def Az(h:Heap)(v:Value)(ns:List Int):Prop:=∃a items,v=.ref a/\IsTup h a items/\IntsAre items.toList ns
theorem Az.keep(x:Az h v ns)(k:∀b o,h.get? b=some o->h'.get? b=some o):Az h' v ns:=let ⟨a,its,e,t,i⟩:=x;⟨a,its,e,t.keeps k,i⟩
inductive TupIs(h:Heap):List Value->List (List Int)->Prop
 |nil:TupIs h [] []
 |cons {v:Value}{ns:List Int}{vs:List Value}{aZ:List (List Int)}:Az h v ns->TupIs h vs aZ->TupIs h (v::vs) (ns::aZ)
theorem TupIs.keep(k:∀b o,h.get? b=some o->h'.get? b=some o)(t:TupIs h vs aZ):TupIs h' vs aZ:=by
 induction t with
 |nil=>exact .nil
 |cons a b ih=>exact .cons (a.keep k) ih
theorem TupIs.length(t:TupIs h vs aZ):vs.length=aZ.length:=by
 induction t with
 |nil=>rfl
 |cons a b ih=>exact congrArg (· + 1) ih
theorem TupIs.at(t:TupIs h vs aZ)(hi:i<vs.length):Az h (vs.getD i .none) (aZ.getD i []):=by
 induction t generalizing i with
 |nil=>exact absurd hi (l7 _)
 |cons a b ih=>cases i with
  |zero=>exact a
  |succ i=>exact ih (yB hi)
theorem TupIs.firsts(t:TupIs h vs aZ)(gG:∀ns∈aZ,ns≠[]):∃fs:List Value,KatTups h vs fs/\fs.length=vs.length/\∀v∈fs,∃i t,v=.int i t:=by
 induction t with
 |nil=>exact⟨[],.nil,rfl,λ_ z=>nomatch z⟩
 |@cons v ns vs aZ a b ih=>
  obtain⟨fs,q1,q2,q3⟩:=ih λns hn=>gG ns (b0 _ hn)
  obtain⟨a,items,e,⟨o,e1,e2,n,e3⟩,hi⟩:=a;subst e;obtain⟨items⟩:=items;cases items with
  |nil=>
   cases ns with
   |nil=>exact absurd rfl (gG [] dC)
   |cons _ _=>cases hi
  |cons v items=>
   cases ns with
   |nil=>cases hi
   |cons m ns=>cases hi;exact⟨_::fs,KatTups.cons e1 e2 e3 rfl q1,by rw[i6,i6,q2],λv hv=>(dS.mp hv).elim (λz=>⟨_,_,z⟩) (q3 v)⟩
theorem nX:Looks M h (typeOf (.int i t)) (.type "int"):=.now
theorem rH(hl:s.heap.IsList l vs.toArray\/IsTup s.heap l vs.toArray)(ht:TupIs s.heap vs aZ)(gG:∀ns∈aZ,ns≠[])(h64:vs.length<64)
  (h:∀p:List Nat,p.Perm (List.range vs.length)->p.map (λi=>aZ.getD i [])=bh cE aZ->Q (.ref (s⁻¹+1)) { s with heap:=sortedAll s.heap vs (p.map λi=>vs.getD i Value.none).toArray}) :
  wpAny (model prog w) A (call (.builtin "sorted") [.ref l]) Q E s:=by
 have hz:vs.length<=sizeLine:=by rw[oC];lia
 refine xU hl hz ?_;have aF:=ht.length;by_cases h2:vs.length<2
 .
  refine rE (pO _ _) h2 ⟨rfl,?_⟩;have:=h (List.range vs.length) (xI _) (by
   rw[aF,bB]
   match aZ,aF with
   | [],_=>rfl
   | [x],_=>rfl
   |_::_::_,hl2=>rw[hl2,i6,i6]at h2;lia)
  rw[bB]at this;exact this
 .
  have keep:∀b o,s.heap.get? b=some o->(bR { s with heap:=Ay s.heap vs} (s⁻¹+1) vs).heap.get? b=some o:=λb o e=>jK (rF (vs:=vs) e).2 (rF e).1
  have ht':=ht.keep keep;refine rD (κ:=tuples' true) (O:=cE) (key:=λi=>aZ.getD i []) (pO _ _) ⋯ h64 (λQ' hq=>?_) (λi j C hi hj hC=>?_) λp hp hr=>⟨rfl,?_⟩
  . obtain⟨fs,q1,q2,q3⟩:=ht'.firsts gG;exact kat_kind (T:=.type "int") q1 ⋯ (λv hv=>by obtain⟨i,t,rfl⟩:=q3 v hv;exact nX) ⋯ hq
  . obtain⟨a,its,e,⟨o,e1,e2,n,e3⟩,q⟩:=ht'.at hi;obtain⟨b,iB,e',⟨o2,e4,e5,n2,e6⟩,q'⟩:=ht'.at hj;show wpAny _ _ (keyLt' (tuples' true) (vs.getD i Value.none) (vs.getD j Value.none)) C _ _;rw[e,e'];refine kat_lt e1 e3 e4 e6 (rG q 0 q' ?_ hC);rw[<- q.length,<- q'.length];simp
  . rw[aF]at hp hr;exact h p.toList (by rw[aF];exact (y0.mp hp).trans ⋯) (jM hp hr)
end
section
def dF:List D->Option (List (List Int))
 | []=>some []
 |.tup l::ds=>match bA l,dF ds with |some (n::ns),some aZ=>some ((n::ns)::aZ) |_,_=>none
 |_::_=>none
inductive jN(K:Frag)(H:Hp):List V->List (List Int)->Prop
 |nil:jN K H [] []
 |cons {a:Addr}{ns:List Int}{vs:List V}{aZ:List (List Int)}:eZ K H a (ns.map V.int)->jN K H vs aZ->jN K H (.ref a::vs) (ns::aZ)
theorem jN.real(I:L2.Inv X ah σ H s)(t:jN X.K H xs aZ):∀{its:List Value},Vals xs its->TupIs s.heap its aZ:=by
 induction t with
 |nil=>intro its r;cases r;exact .nil
 |cons q _ ih=>
  intro its r;cases r with
  |cons r rs=>cases r;obtain⟨iB,r2,p,_⟩:=I.tuple q;exact .cons ⟨_,_,rfl,p,by simpa using intsAre_of r2⟩ (ih rs)
theorem xW(h:Vals xs us):∀{i:Nat},i<xs.length->RelV (xs.getD i .non) (us.getD i .none):=by
 induction h with
 |nil=>intro i hi;exact absurd hi (l7 _)
 |cons r _ ih=>
  intro i hi;cases i with
  |zero=>exact r
  |succ i=>exact ih (by simpa using hi)
theorem nY(h:Vals xs us):∀{p:List Nat},(∀i∈p,i<xs.length)->Vals (p.map λi=>xs.getD i .non) (p.map λi=>us.getD i .none)
 | [],_=>.nil
 |i::p,hp=>.cons (xW h (hp i dC)) (nY h λj hj=>hp j (b0 _ hj))
theorem pP:dz X (.builtin "sorted") (λxs H Q=>∃p ys aZ,xs=[.ref p]/\(bU X.K H p ys\/eZ X.K H p ys)/\jN X.K H ys aZ/\(∀ns∈aZ,ns≠[])/\ys.length<64/\
  ∀q (o:List Nat),H q=none->(∀i∈o,i<ys.length)->o.map (λi=>aZ.getD i [])=bh cE aZ->Q (.ref q) (upd H q (.lst (o.map λi=>ys.getD i .non)))):=by
 intro ah s σ H xs us Q I r h;obtain⟨p,ys,aZ,rfl,hq,ht,gG,hl,q⟩:=h;obtain⟨u,rfl,rx⟩:=vals1 r;cases rx;have fin:∀its:List Value,Vals ys its->(s.heap.IsList p its.toArray\/IsTup s.heap p its.toArray)->wpAny (model X.prog X.w) X.A (call (.builtin "sorted") [.ref p]) (EP X ah σ Q) X.xe s:=λits r' pl=>by
  have aF:=r'.length;refine rH pl (ht.real I r') gG ⋯ λo ho hs=>?_
  obtain⟨ep,he⟩:=sortedAll_at s.heap its (o.map λi=>its.getD i Value.none).toArray
  have hin:∀i∈o,i<ys.length:=λi hi=>by rw[aF];exact pV.mp (ho.mem_iff.mp hi)
  have P9:o.length=ys.length:=by rw[ho.length_eq,B2,aF]
  refine⟨.ref (s⁻¹+1),_,I.laid (t':=s.toks) (o:=.lst (o.map λi=>ys.getD i .non)) (λb ob e=>sortedAll_old e) (CS _) ?_,rfl,q _ o (I.hok.fresh (CS _)) hin hs⟩
  refine⟨by rw[gL,oC];lia,_,ep,nY r' hin,he⟩
 rcases hq with hq |hq
 . obtain⟨its,r',pl,hz⟩:=I.list hq;exact fin its r' (.inl pl.isList)
 . obtain⟨its,r',pl,hz⟩:=I.tuple hq;exact fin its r' (.inr pl)
theorem vU(e:bA l=some ns):l=ns.map .int:=by
 induction l generalizing ns with
 |nil=>cases e;rfl
 |cons d l ih=>cases d with
  |int i=>
   have e:(match bA l with |some ns=>some (i::ns) |none=>none)=some ns:=e
   cases e2:bA l with
   |none=>rw[e2]at e;cases e
   |some ms=>rw[e2]at e;cases e;rw[List.map_cons,<- ih e2]
  |_=>cases e
theorem xX{K:Frag}{M:List Addr}{H:Hp}{l:List D}{xs:List V}{aZ:List (List Int)}(q:aC K M H l xs)(e:dF l=some aZ):jN K H xs aZ/\(∀ns∈aZ,ns≠[])/\l=aZ.map λns=>.tup (ns.map .int):=by
 induction l generalizing xs aZ with
 |nil=>cases q;cases e;exact⟨.nil,λ_ z=>(nomatch z),rfl⟩
 |cons d l ih=>cases q with |cons r q=>cases d with
  |tup m=>
   unfold dF at e;split at e
   .
    rename_i n ns aZ e1 e2;cases e;obtain⟨t1,t2,t3⟩:=ih q e2;cases r with
    |tup ha rr=>
     have:=bE rr e1;subst this;refine⟨.cons ha.sq t1,λx hx=>(dS.mp hx).elim (λz=>by rw[z];exact Cc _ _) (t2 x),?_⟩
     rw[List.map_cons,<- t3,vU e1]
   . cases e
  |_=>cases e
theorem aC.pick{K:Frag}{M:List Addr}{H:Hp}{ds:List D}{vs:List V}(h:aC K M H ds vs):∀{o:List Nat},(∀i∈o,i<vs.length)->aC K M H (o.map λi=>ds.getD i .non) (o.map λi=>vs.getD i .non)
 | [],_=>.nil
 |i::o,ho=>by
  refine .cons ?_ (h.pick λj hj=>ho j (b0 _ hj))
  have hi:=ho i dC;have hd:i<ds.length:=by rw[h.length];exact hi
  obtain⟨v,e1,e2⟩:=h.get (i:=i) (d:=ds[i]) (by simp[hd])
  have q1:ds.getD i .non=ds[i]:=by simp[hd]
  have q2:vs.getD i .non=v:=by rw[hU,e1];rfl
  show Rep K M H (ds.getD i .non) (vs.getD i .non);rw[q1,q2];exact e2
theorem uy{d:D}{l:List D}{aZ:List (List Int)}(hK:z.K=X.K)(h:eL d=some l)(hi:dF l=some aZ)(hl:aZ.length<64):CallD X z (.builtin "sorted") [d] (.new ((bh cE aZ).map λns=>.tup (ns.map .int))):=by
 refine⟨_,pP,λg σ As M H vs Q s p k=>?_⟩
 obtain⟨v,rfl,pv⟩:=p.one;have main:∀(a:Addr) (xs:List V),aC z.K M H l xs->(bU X.K H a xs\/eZ X.K H a xs)->∃p ys aZ,[V.ref a]=[.ref p]/\(bU X.K H p ys\/eZ X.K H p ys)/\jN X.K H ys aZ/\(∀ns∈aZ,ns≠[])/\ys.length<64/\
   ∀q (o:List Nat),H q=none->(∀i∈o,i<ys.length)->o.map (λi=>aZ.getD i [])=bh cE aZ->Q (.ref q) (upd H q (.lst (o.map λi=>ys.getD i .non))):=λa xs rr hq=>by
  obtain⟨t1,t2,t3⟩:=xX rr hi;have aF:xs.length=aZ.length:=by rw[<- rr.length,t3,gL]
  refine⟨a,xs,aZ,rfl,hq,hK▸t1,t2,by lia,λq o hf hin hs=>?_⟩
  have e:((bh cE aZ).map λns=>D.tup (ns.map .int))=o.map λi=>l.getD i .non:=by
   rw[<- hs,List.map_map];refine CU λi hi=>?_
   have:i<aZ.length:=by rw[<- aF];exact hin i hi
   rw[t3];simp[this]
  have Zx:=(rr.pick hin).stay (ao.aK (o:=.lst (o.map λi=>xs.getD i .non)) hf)
  refine k _ _ As (q::M) (s.aK hf) (ao.aK hf) ⟨q,_,rfl,dC,λhA=>s.fresh hf (s.sub q hA),s.bQ hf,aD,?_⟩
  rw[e];exact Zx
 cases d with
 |lst m=>cases h;obtain⟨a,xs,rfl,e1,e2⟩:=pv.list;exact main a xs e2 (.inl (bU.of e1))
 |tup m=>cases h;obtain⟨a,xs,rfl,e1,e2⟩:=pv.tup;exact main a xs e2 (.inr (hK▸e1.sq))
 |fix m=>cases h;obtain⟨a,xs,rfl,e1,e2⟩:=pv.fix;exact main a xs e2 (.inl (hK▸e1.sq))
 |_=>cases h
end
open L2 PySem.W
open L2 PySem.W
open L2 PySem.W SeqAt
open L2 PySem.W SeqAt
open L2 PySem.W SeqAt
open L2 PySem.W SeqAt
section
theorem fc.of (h:∀(ah:List (Addr×Obj)) (s:Shared) (σ:Sg) (As M:List Addr) (H:Hp) (Post:Value->Shared->Prop),L2.Inv X ah σ H s->S z g σ As M H->
  (∀v s1,(∀(R:It->Hp->Prop),(∀J H' au M',S z g1 σ au M' H'->ao M H M' H'->Jt J items z.K M' H'->R J H')->wpAny (model X.prog X.w) X.A (pyIter v) (PIE X ah σ tg R) X.xe s1)->Post v s1)->wpAny (model X.prog X.w) X.A (eval iter X.env) Post X.xe s):fc X z tg iter g items g1:=
 ⟨λσ H R=>∃As M,S z g σ As M H/\(∀J H' au M',S z g1 σ au M' H'->ao M H M' H'->Jt J items z.K M' H'->R J H'),λah s σ H R I ⟨As,M,st,k⟩=>h ah s σ As M H _ I st λv s1 q=>q R k,λσ As M H R s k=>⟨As,M,s,k⟩⟩
end
open L2 PySem.W SeqAt
section
theorem uz(hit:s.heap.IsTupleIter it t i)(ht:s.heap.IsTuple t items)(hx:items[i]?=some x)(hQ:∀h',h'.IsTupleIter it t (i+1)->Heap.SameBut it s.heap h'->Q x { s with heap:=h'}):wpAny (model prog w) A (Builtin.SmallTypes.nextOf (.ref it)) Q E s:=by
 obtain⟨o,ho,hc,hd⟩:=id hit;obtain⟨ol,P9,_,nl,hdl⟩:=ht;unfold Builtin.SmallTypes.nextOf;refine aS (mM (name:=Str.ofString "__next__") hit.typeIs y6 (mE y6 hit.typeIs F.entry_tuple_iterator_next ?_ (F.args_tuple_iterator_next_1 _)));show wpAny _ _ (field (.ref it) 0 >>= _) _ _ s;refine aS (oD ho hd (x:=.ref t) rfl ?_);show wpAny _ _ (if (Value.ref t==Value.none)=true then _ else _) _ _ s
 rw[fI (show ¬ ((Value.ref t==Value.none)=true)from kS)]
 show wpAny _ _ (field (.ref it) 1 >>= _) _ _ s;refine aS (oD ho hd (x:=.int i 0) rfl ?_);show wpAny _ _ (seqItems? (.ref t) >>= _) _ _ s;refine aS (v0 P9 hdl ?_);simp only[A5,hx];refine aS (B4 ho hd ⋯ (bP ⟨x,rfl,bP (hQ _ ⟨_,oI _ ho (Obj.isFreed_of_fields (Ap hd _)),(Obj.cls_mapFields ..).trans hc,?_⟩ (u8 ..))⟩));rw[Ap hd];simp[rawInt]
theorem mS(hh:A.handled=none)(hit:s.heap.IsTupleIter it t i)(ht:s.heap.IsTuple t items)(hx:items[i]?=none)
  (hE:∀h' e,Heap.ExtBut it s.heap h'->(∃o,h'.get? e=some o/\o.cls=.type "StopIteration")->E (.ref e) { s with heap:=h'}):wpAny (model prog w) A (Builtin.SmallTypes.nextOf (.ref it)) Q E s:=by
 obtain⟨o,ho,hc,hd⟩:=id hit;obtain⟨ol,P9,_,nl,hdl⟩:=ht;unfold Builtin.SmallTypes.nextOf;refine aS (mM (name:=Str.ofString "__next__") hit.typeIs y6 (mE y6 hit.typeIs F.entry_tuple_iterator_next ?_ (F.args_tuple_iterator_next_1 _)));show wpAny _ _ (field (.ref it) 0 >>= _) _ _ s;refine aS (oD ho hd (x:=.ref t) rfl ?_);show wpAny _ _ (if (Value.ref t==Value.none)=true then _ else _) _ _ s
 rw[fI (show ¬ ((Value.ref t==Value.none)=true)from kS)]
 show wpAny _ _ (field (.ref it) 1 >>= _) _ _ s;refine aS (oD ho hd (x:=.int i 0) rfl ?_);show wpAny _ _ (seqItems? (.ref t) >>= _) _ _ s;refine aS (v0 P9 hdl ?_);simp only[A5,hx];refine aS (C5 (aS (B4 ho hd ⋯ ?_)));show wpAny _ _ (newExc (.type "StopIteration") [] >>= _) _ _ _;refine aS ?_;simp only[newExc,newTuple];refine aS (lL (aS (m:=firstArgMember _ _) (wpAny_of_eq (a:=Value.none) (by first |rfl | (simp only[firstArgMember];rfl)) (lL ?_ (by size_fits)))) (by size_fits))
 simp only[raiseNew];refine aS (wpAny_handled ?_)
 first |rw[show A.in1.handled=none from hh] |rw[hh]
 exact aS (bP (wpAny_throw (hE _ _ (((u8 ..).extBut.push _).push _) ⟨_,eC _ rfl,rfl⟩)))
theorem MK(hh:A.handled=none)(it t:Addr)(gG:t≠it)(items:Array Value):Draws prog w A it [it,t] items.size (λi v=>items[i]?=some v) (λi h=>h.IsTupleIter it t i/\h.IsTuple t items) where
 live:=λ_ _ st=>let ⟨o,ho,_⟩:=st.1;⟨o,ho⟩
 frame:=λ_ _ _ st hk=>by
  obtain⟨⟨o,ho,r⟩,⟨o',ho',r'⟩⟩:=st;exact⟨⟨o,hk it ⋯ o ho,r⟩,⟨o',hk t ⋯ o' ho',r'⟩⟩
 item:=λi s Q E hi st hQ=>uz st.1 st.2 (x:=items[i]) (by simp[hi]) λh' uA hs'=>hQ _ h' s.toks (by simp[hi]) ⟨uA,IsTup.extBut st.2 hs'.extBut gG⟩ hs'
 done:=λs Q E st hE=>mS hh st.1 st.2 ⋯ hE
end
open L2 PySem.W SeqAt
def nZ(tp:Bool)(K:Frag)(H:Hp)(a:Addr)(xs:List V):Prop:=match tp with |true=>eZ K H a xs |false=>bU K H a xs
def Ef(tp:Bool)(h:Heap)(it a:Addr)(i:Nat):Prop:=match tp with |true=>h.IsTupleIter it a i |false=>h.IsListIter it a i
def Us(tp:Bool)(h:Heap)(a:Addr)(its:List Value):Prop:=match tp with |true=>h.IsTuple a its.toArray |false=>h.IsList a its.toArray
section
theorem nZ.real(I:L2.Inv X ah σ H s)(h:nZ tp X.K H a xs):∃its:List Value,Vals xs its/\Us tp s.heap a its/\xs.length<=sizeLine:=by
 cases tp with
 |true=>exact I.tuple h
 |false=>obtain⟨its,r,pl,hz⟩:=I.list h;exact⟨its,r,pl.isList,hz⟩
theorem nZ.inj(I:L2.Inv X ah σ H s)(h:nZ tp X.K H a xs)(h':nZ tp X.K H a ys):xs=ys:=by
 cases tp with
 |true=>exact I.nq h h'
 |false=>exact I.qK h h'
theorem Ef.obj(x:Ef tp h it a i):∃o vs,h.get? it=some o/\o.data=.fields vs:=by
 cases tp with
 |true=>obtain⟨o,e,_,d⟩:=(show h.IsTupleIter it a i from x);exact⟨o,_,e,d⟩
 |false=>obtain⟨o,e,_,d⟩:=(show h.IsListIter it a i from x);exact⟨o,_,e,d⟩
theorem Ef.keep(x:Ef tp h it a i)(k:∀o,h.get? it=some o->h'.get? it=some o):Ef tp h' it a i:=by
 cases tp with
 |true=>obtain⟨o,e,d⟩:=(show h.IsTupleIter it a i from x);exact⟨o,k o e,d⟩
 |false=>obtain⟨o,e,d⟩:=(show h.IsListIter it a i from x);exact⟨o,k o e,d⟩
theorem pQ(hh:A.handled=none)(gG:a≠it)(its:List Value):Draws prog w A it [it,a] its.length (λi v=>its[i]?=some v) (λi h=>Ef tp h it a i/\Us tp h a its):=by
 cases tp with
 |true=>have:=MK (prog:=prog) (w:=w) hh it a gG its.toArray;simp only[dA,List.getElem?_toArray]at this;exact this
 |false=>have:=Draws.list (prog:=prog) (w:=w) hh it a gG its.toArray;simp only[dA,List.getElem?_toArray]at this;exact this
end
open L2 PySem.W SeqAt
section
theorem MN(hc:X.calm=true)(hN:X.N.Nodup)(hi:X.N[i]?=some x)(hj:X.N[j]?=some y)(hij:i≠j)(hx:X.env.scope.names.lookup x=some .local)(hy:X.env.scope.names.lookup y=some .local)
  (ha:bW X z [a,b] g [.dat d1,.dat d2] g1) (hbi:i∉z.bor) (Ww:j∉z.bor) (hw:swappedStores [.Tuple [.Name x px,.Name y py] kt pt] (.Tuple [a,b] k2 vq) X.env=pure (some [x,y])) (hs:swapsWithSole [.Tuple [.Name x px,.Name y py] kt pt] (.Tuple [a,b] k2 vq) pos.line X.env=pure false) :
  gW X z (.Assign [.Tuple [.Name x px,.Name y py] kt pt] (.Tuple [a,b] k2 vq) pos) g .nx ((g1.set i (.dat d1)).set j (.dat d2)):=by
 obtain⟨t,q,k⟩:=ha;refine⟨_,Kg hc hN hi hj hij hx hy q hw hs,λσ As M H E s kk=>k σ As M H _ s λvs H' au M' s' st R=>?_⟩
 cases R with
 |dat r R=>
  cases R with
  |dat r' R=>cases R;obtain⟨bf,s2⟩:=s'.gS (i:=i) hbi r;obtain⟨jH,s3⟩:=s2.gS (i:=j) Ww r';exact⟨_,_,rfl,kk _ jH M' H' s3 st⟩
end
end Ev
namespace HT
open PySem PyProof.Rows
section
theorem uB(n:Nat):Builtin.Slice.sliceAdjust none none (-1) (n:Int)=((n:Int) - 1,-1):=rfl
theorem uC(n:Nat):Builtin.Slice.slicePlaces ((n:Int) - 1) (-1) (-1)=n:=by
 unfold Builtin.Slice.slicePlaces;rw[fI ⋯,show (- -1:Int)=1 from by decide,Int.ediv_one]
 split <;> lia
theorem jt{sl:Addr}{vs:Value}{n:Nat}{Q:Int×Int×Nat->Shared->Prop}(hs:s.heap.IsSliceOf sl .none .none vs)(ps:IsPart vs (some (-1)))
  (h:Q ((n:Int) - 1,-1,n) s):wpAny (model prog w) A (Builtin.Slice.sliceApplied (.ref sl) (pure (n:Int))) Q E s:=by
 obtain⟨os,hos,hcs,hds⟩:=id hs;unfold Builtin.Slice.sliceApplied Builtin.Slice.sliceFields;refine aS (aS (oD hos hds (x:=.none) rfl (aS (oD hos hds (x:=.none) rfl (aS (oD hos hds (x:=vs) rfl (bP ?_)))))));refine aS (gQ ps ?_);show wpAny _ _ (if ((-1:Int)==0)=true then _ else _) _ _ s
 rw[fI ⋯];refine aS (slicePart_none (aS (slicePart_none (aS (bP ?_)))));show wpAny _ _ (match Builtin.Slice.sliceAdjust none none (-1) (n:Int)with | (lo,hi)=>pure (lo,(-1:Int),Builtin.Slice.slicePlaces lo hi (-1))) _ _ s
 rw[uB n];show wpAny _ _ (pure ((n:Int) - 1,(-1:Int),Builtin.Slice.slicePlaces ((n:Int) - 1) (-1) (-1))) _ _ s;rw[uC];exact bP h
theorem Ba(xs:Array Value):((List.range xs.size).filterMap λ(m:Nat)=>xs[(((xs.size:Int) - 1)+(m:Int) * -1).toNat]?).toArray=xs.toList.reverse.toArray:=by
 have e:(λ(m:Nat)=>xs[(((xs.size:Int) - 1)+(m:Int) * -1).toNat]?)=λm=>xs[xs.size - 1 - m]?:=by
  funext m
  congr 1
  lia
 rw[e];have e2:(List.range xs.size).filterMap (λm=>xs[xs.size - 1 - m]?)=((List.range xs.size).map λk=>xs.size - 1 - k).filterMap (xs[·]?):=by rw[List.filterMap_map];rfl
 rw[e2,PySem.W.krv_range,List.filterMap_reverse,PySem.W.krv_all]
theorem iN(ht:IsTup s.heap t items)(hs:s.heap.IsSliceOf sl .none .none vs)(ps:IsPart vs (some (-1)))
  (h:Q (.ref s⁻¹) { s with heap:=s.heap.push { cls:=.type "tuple",data:=.seq items.toList.reverse.toArray}})
  (tK:items.size<=sizeLine):wpAny (model prog w) A (getItem (.ref t) (.ref sl)) Q E s:=by
 have iG:sizeOk (.seq items.toList.reverse.toArray):=by show items.toList.reverse.toArray.size<=sizeLine;rw[dA,Bi,h9];exact tK
 obtain⟨os,hos,hcs,hds⟩:=id hs;have Ra:s.TypeIs (.ref sl) "slice" :=⟨os,hos,hcs⟩;unfold getItem
 try with_reducible refine i7 ?_
 first |refine aS (bP ?_) |skip
 refine aS (wpAny_sequenceKey ht.typeIs ⋯ ?_);refine aS (mM (name:=Str.ofString "__getitem__") ht.typeIs nE
  (mE nE ht.typeIs entry_tuple_getitem ?_ (args_tuple_getitem _ _)))
 show wpAny _ _ (Builtin.Tuple.tupleItemsOf (.ref t) >>= _) _ _ s;refine aS (tupleItemsOf_ ht ?_);refine aS (AJ Ra ?_);rw[fN ⋯];refine aS (jt hs ps ?_);show wpAny _ _ (if ((items.size:Int) - 1==0&&(-1:Int)==1&&items.size==items.size)=true then _ else _) _ _ s
 rw[fI (by intro q;rw[eJ,eJ]at q;exact absurd (eq_of_beq q.1.2) ⋯),Ba]
 first
  |exact aS (m:=Builtin.Tuple.tupleExact _) (lL (bP ⟨_,rfl,bP h⟩) iG)
  |exact aS (m:=Builtin.Tuple.tupleExact _) (lL (aS (bP (bP ⟨_,rfl,bP h⟩))) iG)
  |exact aS (aS (m:=Builtin.Tuple.tupleExact _) (lL (bP (bP ⟨_,rfl,bP h⟩)) iG))
  |exact aS (aS (m:=Builtin.Tuple.tupleExact _) (lL (bP ⟨_,rfl,bP h⟩) iG))
end
end HT
namespace Ev
open L2
section
noncomputable abbrev m1(j:Nat)(p1 p3:Pos):Expr:=.UnaryOp .USub (.Constant (.int 1) j p1) p3
theorem Bb{e:Expr}{te:TE}{r:V->Hp->VK->Prop}(he:PE X e te)
  (hr:∀(ah:List (Addr×Obj)) (s:Shared) (σ:L2.St) (H:Hp) (x:V) (v vs:Value) (sl:Addr) (Q:VK),L2.Inv X ah σ H s->RelV x v->s.heap.IsSliceOf sl .none .none vs->IsPart vs (some (-1))->r x H Q->
   ∃T id,typeLookup (.type T) "__getitem__"=pure (some (.builtin id))/\s.TypeIs v T/\wpAny (model X.prog X.w) X.A (getItem v (.ref sl)) (EP X ah σ Q) X.xe s)
  (pm:∀(ah:List (Addr×Obj)) (s:Shared) (σ:L2.St) (H:Hp),L2.Inv X ah σ H s->wpAny (model X.prog X.w) X.A (eval (m1 j p1 p3) X.env) (λu s'=>L2.Inv X ah σ H s'/\IsPart u (some (-1))) X.xe s) :
  PE X (.Subscript e (.Slice none none (some (m1 j p1 p3)) p2) pos) (λσ H Q=>te σ H λx H1=>r x H1 Q):=by
 intro ah s σ H Q I h;refine Subscript_ (bI (he ah s σ H _ I h) λv s1 ⟨x,H1,I1,r1,q1⟩=>?_)
 refine wpAny_Slice ?_;rw[evalPart_none];refine bP (bP ?_);refine PySem.evalPart_some_step (bI (pm ah s1 σ H1 I1) λu s2 ⟨I2,pu⟩=>?_)
 have I4:L2.Inv X ah σ H1 { s2 with heap:=s2.heap.push { cls:=.type "slice",data:=.fields #[.none,.none,u]}}:=I2.kept (t':=s2.toks) λb ob q=>a9 _ q
 obtain⟨T,id,hT,ht,hg⟩:=hr ah { s2 with heap:=s2.heap.push { cls:=.type "slice",data:=.fields #[.none,.none,u]}} σ H1 x v u s2⁻¹ Q I4 r1 (Heap.IsSliceOf.new ..) pu q1;show wpAny (model X.prog X.w) X.A (subscriptTail e (.Slice none none (some (m1 j p1 p3)) p2) v (.ref s2⁻¹)) (EP X ah σ Q) X.xe { s2 with heap:=s2.heap.push { cls:=.type "slice",data:=.fields #[.none,.none,u]}};exact tail_any (ops:=[v,.ref s2⁻¹]) ht hT hg (by with_unfolding_all rfl)
theorem X5(ah:List (Addr×Obj))(s:Shared)(σ:L2.St)(H:Hp)(I:L2.Inv X ah σ H s):wpAny (model X.prog X.w) X.A (eval (m1 j p1 p3) X.env) (λu s'=>L2.Inv X ah σ H s'/\IsPart u (some (-1))) X.xe s:=
 bI ((Jp (pos:=p3) zq (zb (i:=1) (j:=j) (pos:=p1))) ah s σ H (λv H'=>v=.int (-1)/\H'=H) I ⟨1,rfl,rfl,rfl⟩) λu s' ⟨v,H',I',r,e1,e2⟩=>by
  subst e1 e2;obtain⟨t,rfl⟩:=r;exact⟨I',.int _ t⟩
theorem GR{r:R}{l:List D}(hK:z.K=X.K)(h:aq X z a g r g1)(hp:pk r g1=some (.lst l)):aq X z (.Subscript a (.Slice none none (some (m1 j p1 p3)) p2) pos) g (.new l.reverse) g1:=by
 obtain⟨t,q,k⟩:=h;refine⟨_,Bb (r:=λx H Q=>∃b xs,x=.ref b/\bU X.K H b xs/\∀p,H p=none->Q (.ref p) (upd H p (.lst xs.reverse))) q (λah s σ H x v vs sl Q I rx hs ps hx=>?_) X5,λσ As M H Q s kk=>k σ As M H _ s λv H1 aR M1 s1 dc R=>?_⟩
 .
  obtain⟨b,xs,rfl,hx,hq⟩:=hx;cases rx;obtain⟨its,r,ht,hz⟩:=I.list hx;have aF:=r.length;refine⟨"list",_,slot_list_getitem.lookup,ht.isList.typeIs,?_⟩;refine wpAny_getItem_list_slice ht.isList hs .none .none ps ⋯ ?_ (by rw[dA,<- aF];exact hz)
  rw[PySem.W.krv_pick];refine⟨.ref s⁻¹,_,I.laid (t':=s.toks) (o:=.lst xs.reverse) (λb ob q=>a9 _ q) (eA _) ?_,rfl,hq _ (I.hok.fresh (eA _))⟩
  exact⟨by rw[Bi];exact hz,its.reverse,0,r.reverse,eC _ rfl⟩
 .
  obtain⟨b,xs,rfl,e1,e2⟩:=(s1.pk (ao.refl _ _) R hp).list;refine⟨b,xs,rfl,bU.of e1,λp hp=>?_⟩
  exact kk _ _ aR (p::M1) (s1.aK hp) (dc.trans (ao.aK hp)) ⟨p,xs.reverse,rfl,dC,λhA=>s1.fresh hp (s1.sub p hA),s1.bQ hp,aD,e2.reverse.stay (ao.aK hp)⟩
theorem GX{l:List D}(hK:z.K=X.K)(h:aq X z a g (.dat (.tup l)) g1):aq X z (.Subscript a (.Slice none none (some (m1 j p1 p3)) p2) pos) g (.dat (.tup l.reverse)) g1:=by
 obtain⟨t,q,k⟩:=h;refine⟨_,Bb (r:=λx H Q=>∃b xs,x=.ref b/\eZ X.K H b xs/\∀p,H p=none->Q (.ref p) (upd H p (.tup xs.reverse))) q (λah s σ H x v vs sl Q I rx hs ps hx=>?_) X5,λσ As M H Q s kk=>k σ As M H _ s λv H1 aR M1 s1 dc R=>?_⟩
 .
  obtain⟨b,xs,rfl,hx,hq⟩:=hx;cases rx;obtain⟨its,r,ht,hz⟩:=I.tuple hx;have aF:=r.length;refine⟨"tuple",_,PyProof.Rows.slot_tuple_getitem.lookup,ht.typeIs,?_⟩;refine HT.iN ht hs ps ?_ (by rw[dA,<- aF];exact hz)
  refine⟨.ref s⁻¹,_,I.laid (t':=s.toks) (o:=.tup xs.reverse) (λb ob q=>a9 _ q) (eA _) ?_,rfl,hq _ (I.hok.fresh (eA _))⟩
  exact⟨by rw[Bi];exact hz,its.reverse,r.reverse,dI.new _ _⟩
 .
  cases R with
  |@tup _ b xs e1 e2=>exact⟨b,xs,rfl,hK▸e1.sq,λp hp=>kk _ _ aR M1 (s1.laid hp) (dc.trans (ao.laid hp)) (.tup (.inl ⟨s1.fresh hp,.inl aD⟩) (e2.reverse.stay (ao.laid hp)))⟩
theorem MP:aq X z (.Dict [] [] pos) g (.dat .emp) g:=by
 refine⟨λσ H Q=>∀p,H p=none->Q (.ref p) (upd H p (.dK [])),λah s σ H Q I h=>wpAny_Dict_empty ⟨.ref s⁻¹,_,I.laid (t':=s.toks) (o:=.dK []) (λb ob q=>a9 _ q) (eA _) ?_,rfl,h _ (I.hok.fresh (eA _))⟩,λσ As M H Q s k p hp=>k _ _ As M (s.laid hp) (ao.laid hp) (.emp (s.fresh hp) aD)⟩
 refine⟨nV _,?_,[],?_,Heap.DictOf.new _⟩
 .
  have h1:mainGlobals<s⁻¹:=(I.ok.mod.glob.keeps I.bk).lt;refine BY.mpr λq=>?_
  have q:=eq_of_beq q;rw[q]at h1;exact absurd h1 ⋯
 . exact .nil
end
open L2 PySem.W SeqAt
section
structure Qa(r tI tO i j a b:Addr):Prop where
 n1:tI≠r/\tO≠r/\i≠r/\j≠r/\a≠r/\b≠r
 n2:tI≠tO/\i≠tO/\j≠tO/\a≠tO/\b≠tO
 n3:tI≠i/\tI≠j/\i≠j
 n4:a≠i/\b≠i/\a≠j/\b≠j
section
theorem Bc{Q:Value->Shared->Prop}(N:Qa r tI tO i j a b)(D1:Draws prog w A i [i,a] n f S1)(D2:Draws prog w A j [j,b] m g S2)(hk1:k<n)(hk2:k<m)
  (er:IsZip s.heap r tI tO .none) (eI:IsPair s.heap tI (.ref i) (.ref j)) (eO:IsPair s.heap tO c d) (t1:S1 k s.heap) (t2:S2 k s.heap)
  (hQ:∀u v h' tk,f k u->g k v->IsZip h' r tI tO (rawInt s⁻¹)->IsPair h' tO u v->S1 (k+1) h'->S2 (k+1) h'->IsPair h' s⁻¹ u v->h'.objs.size=s⁻¹+1->
   (∀x o,x≠r->x≠tO->x≠i->x≠j->s.heap.get? x=some o->h'.get? x=some o)->Q (.ref s⁻¹) { s with heap:=h',toks:=tk}) :
  wpAny (model prog w) A (Builtin.«zip.__next__» ⟨[.ref r],[]⟩) (λfin s'=>∃v,fin=.done (.ret v)/\Q v s') E s:=by
 obtain⟨⟨p1,p2,p3,p4,p5,p6⟩,⟨q1,q2,q3,q4,q5⟩,⟨u1,u2,u3⟩,⟨v1,v2,v3,v4⟩⟩:=N;refine aS (m:=field (.ref r) 2) (oD er rfl (x:=.bool false) rfl ?_);refine aS (m:=field (.ref r) 3) (oD er rfl (x:=.ref tI) rfl (aS (v0 eI rfl ?_)));refine aS (m:=Builtin.SmallTypes.ownedTupleIsFree (.ref r)) ?_;unfold Builtin.SmallTypes.ownedTupleIsFree;refine aS (oD er rfl (x:=.none) rfl (bP ?_));simp only[A9];refine aS (C5 (aS (oD er rfl (x:=.ref tO) rfl (aS (At er ⋯ λha Eg ka=>?_)))))
 replace Eg:IsZip ha r tI tO .ellipsis:=Eg;refine aS ?_;simp only[List.zipIdx_cons,List.zipIdx_nil,List.forIn_cons,List.forIn_nil];have Ut:S1 k ha:=D1.frame k _ _ t1 λx hx o e=>(ka.2 x (by rcases dS.mp hx with z |z;exact z▸p3;exact (gN.mp z)▸p5)).trans e
 have Wx:S2 k ha:=D2.frame k _ _ t2 λx hx o e=>(ka.2 x (by rcases dS.mp hx with z |z;exact z▸p4;exact (gN.mp z)▸p6)).trans e
 refine aS (aS (CF (aS (m:=Builtin.SmallTypes.nextOf (.ref i)) (D1.item k { s with heap:=ha} _ _ hk1 Ut λu hb GZ fu X6 kb=>bP ?_))))
 have kb:Heap.SameBut i ha hb:=kb;have RX:IsPair hb tO c d:=(kb.2 _ (t9 q2)).trans ((ka.2 _ p2).trans eO);refine aS (v0 (s:={ s with heap:=hb,toks:=GZ}) RX rfl (aS (wpAny_updateSeq_pair (s:={ s with heap:=hb,toks:=GZ}) RX λhc Uu kc=>?_)))
 replace Uu:IsPair hc tO u d:=Uu;have kc:Heap.SameBut tO hb hc:=kc;refine aS (wpAny_letGo (bP ?_));have Zy:S1 (k+1) hc:=D1.frame _ _ _ X6 λx hx o e=>(kc.2 x (by rcases dS.mp hx with z |z;exact z▸q2;exact (gN.mp z)▸q4)).trans e
 have Wy:S2 k hc:=D2.frame k _ _ Wx λx hx o e=>by
  have hx:x=j\/x=b:=by rcases dS.mp hx with z |z;exact .inl z;exact .inr (gN.mp z)
  rw[kc.2 x (by rcases hx with rfl |rfl;exact q3;exact q5),kb.2 x (by rcases hx with rfl |rfl;exact t9 u3;exact v2)]
  exact e
 refine aS (aS (CF (aS (m:=Builtin.SmallTypes.nextOf (.ref j)) (D2.item k { s with heap:=hc,toks:=GZ} _ _ hk2 Wy λv hd Qc gv Zz kd=>bP ?_))))
 have kd:Heap.SameBut j hc hd:=kd;have X7:IsPair hd tO u d:=(kd.2 _ (t9 q3)).trans Uu;refine aS (v0 (s:={ s with heap:=hd,toks:=Qc}) X7 rfl (aS (wpAny_updateSeq_pair (s:={ s with heap:=hd,toks:=Qc}) X7 λhe Uv ke=>?_)))
 replace Uv:IsPair he tO u v:=Uv;have ke:Heap.SameBut tO hd he:=ke;refine aS (wpAny_letGo (bP (bP ?_)));refine aS (v0 (s:={ s with heap:=he,toks:=Qc}) Uv rfl (aS (wpAny_newTuple ?_)));have sz:he.objs.size=s⁻¹:=by rw[ke.1,kd.1,kc.1,kb.1];exact ka.1
 have X8:IsZip he r tI tO .ellipsis:=by show he.get? r=_;rw[ke.2 _ (t9 p2),kd.2 _ (t9 p4),kc.2 _ (t9 p2),kb.2 _ (t9 p3)];exact Eg
 have old:∀x o,x≠r->x≠tO->x≠i->x≠j->s.heap.get? x=some o->he.get? x=some o:=λx o x1 x2 x3 x4 e=>by
  rw[ke.2 _ x2,kd.2 _ x4,kc.2 _ x2,kb.2 _ x3];exact (ka.2 _ x1).trans e
 have ZC:S1 (k+1) he:=D1.frame _ _ _ Zy λx hx o e=>by
  have hx:x=i\/x=a:=by rcases dS.mp hx with z |z;exact .inl z;exact .inr (gN.mp z)
  rw[ke.2 x (by rcases hx with rfl |rfl;exact q2;exact q4),kd.2 x (by rcases hx with rfl |rfl;exact u3;exact v3)]
  exact e
 have ZD:S2 (k+1) he:=D2.frame _ _ _ Zz λx hx o e=>(ke.2 x (by rcases dS.mp hx with z |z;exact z▸q3;exact (gN.mp z)▸q5)).trans e
 refine aS (m:=Builtin.SmallTypes.ownedTupleHandOut (.ref r) (.ref he.objs.size)) ?_;unfold Builtin.SmallTypes.ownedTupleHandOut;have erf:IsZip (he.push { cls:=.type "tuple",data:=.seq #[u,v]}) r tI tO .ellipsis:=a9 _ X8;refine aS (At erf ⋯ λhg Wz kg=>?_)
 replace Wz:IsZip hg r tI tO (rawInt he.objs.size):=Wz;refine At Wz ⋯ λhh Uw kh=>?_
 replace Uw:IsZip hh r tI tO (rawInt he.objs.size):=Uw;have kg:Heap.SameBut r (he.push { cls:=.type "tuple",data:=.seq #[u,v]}) hg:=kg;have kh:Heap.SameBut r hg hh:=kh;have up:∀x o,x≠r->he.get? x=some o->hh.get? x=some o:=λx o x1 e=>by rw[kh.2 _ x1,kg.2 _ x1];exact a9 _ e
 have Yb:r<he.objs.size:=eP X8;have new:IsPair hh he.objs.size u v:=by show hh.get? _=_;rw[kh.2 _ (B5 Yb),kg.2 _ (B5 Yb)];exact eC _ rfl
 have Yc:hh.objs.size=he.objs.size+1:=by rw[kh.1,kg.1,vS]
 have ZF:∀x o,x=i\/x=a->he.get? x=some o->hh.get? x=some o:=λx o hx e=>up x o (by rcases hx with rfl |rfl;exact p3;exact p5) e
 have ZG:∀x o,x=j\/x=b->he.get? x=some o->hh.get? x=some o:=λx o hx e=>up x o (by rcases hx with rfl |rfl;exact p4;exact p6) e
 rw[sz]at Uw new Yc;refine bP ⟨_,rfl,?_⟩;show Q (.ref he.objs.size) _;rw[sz];exact hQ u v hh Qc fu gv Uw (up _ _ p2 Uv) (D1.frame _ _ _ ZC λx hx o e=>ZF x o (by rcases dS.mp hx with z |z;exact .inl z;exact .inr (gN.mp z)) e)
  (D2.frame _ _ _ ZD λx hx o e=>ZG x o (by rcases dS.mp hx with z |z;exact .inl z;exact .inr (gN.mp z)) e) new Yc λx o x1 x2 x3 x4 e=>up x o x1 (old x o x1 x2 x3 x4 e)
theorem G0(N:Qa r tI tO i j a b)(D1:Draws prog w A i [i,a] n f S1)(D2:Draws prog w A j [j,b] m g S2)(hk:k=n\/(k<n/\k=m))
  (er:IsZip s.heap r tI tO .none) (eI:IsPair s.heap tI (.ref i) (.ref j)) (eO:IsPair s.heap tO c d) (t1:S1 k s.heap) (t2:S2 k s.heap)
  (hE:∀h' e tk,(∀x o,x≠r->x≠tO->x≠i->x≠j->s.heap.get? x=some o->h'.get? x=some o)->(∃o,h'.get? e=some o/\o.cls=.type "StopIteration")->E (.ref e) { s with heap:=h',toks:=tk}) :
  wpAny (model prog w) A (Builtin.«zip.__next__» ⟨[.ref r],[]⟩) Q E s:=by
 obtain⟨⟨p1,p2,p3,p4,p5,p6⟩,⟨q1,q2,q3,q4,q5⟩,⟨u1,u2,u3⟩,⟨v1,v2,v3,v4⟩⟩:=N;refine aS (m:=field (.ref r) 2) (oD er rfl (x:=.bool false) rfl ?_);refine aS (m:=field (.ref r) 3) (oD er rfl (x:=.ref tI) rfl (aS (v0 eI rfl ?_)));refine aS (m:=Builtin.SmallTypes.ownedTupleIsFree (.ref r)) ?_;unfold Builtin.SmallTypes.ownedTupleIsFree;refine aS (oD er rfl (x:=.none) rfl (bP ?_));simp only[A9];refine aS (C5 (aS (oD er rfl (x:=.ref tO) rfl (aS (At er ⋯ λha Eg ka=>?_)))))
 replace Eg:IsZip ha r tI tO .ellipsis:=Eg;refine aS ?_;simp only[List.zipIdx_cons,List.zipIdx_nil,List.forIn_cons,List.forIn_nil];have Ut:S1 k ha:=D1.frame k _ _ t1 λx hx o e=>(ka.2 x (by rcases dS.mp hx with z |z;exact z▸p3;exact (gN.mp z)▸p5)).trans e
 have Wx:S2 k ha:=D2.frame k _ _ t2 λx hx o e=>(ka.2 x (by rcases dS.mp hx with z |z;exact z▸p4;exact (gN.mp z)▸p6)).trans e
 have stop:∀(hb:Heap) (e:Addr) (tk:Nat),IsZip hb r tI tO .ellipsis->(∃o,hb.get? e=some o/\o.cls=.type "StopIteration")->e≠r:=λhb e tk z ⟨o,h1,h2⟩ q=>by
  rw[q,z]at h1;cases h1;exact absurd (show Value.type "zip"=.type "StopIteration" from h2) ⋯
 rcases hk with rfl |⟨hk1,rfl⟩
 .
  refine aS (aS (CF (aS (m:=Builtin.SmallTypes.nextOf (.ref i)) (D1.done { s with heap:=ha} _ _ Ut λhb e kb ex=>?_))))
  have kb:Heap.ExtBut i ha hb:=kb;have Yd:IsZip hb r tI tO .ellipsis:=kb _ _ (t9 p3) Eg;have WD:=stop hb e s.toks Yd ex;obtain⟨oe,x1,x2⟩:=ex;refine At (s:={ s with heap:=hb}) Yd ⋯ λhc _ kc=>?_
  have kc:Heap.SameBut r hb hc:=kc;exact hE hc e s.toks (λx o y1 y2 y3 y4 z=>(kc.2 _ y1).trans (kb _ _ y3 ((ka.2 _ y1).trans z))) ⟨oe,(kc.2 _ WD).trans x1,x2⟩
 .
  refine aS (aS (CF (aS (m:=Builtin.SmallTypes.nextOf (.ref i)) (D1.item k { s with heap:=ha} _ _ hk1 Ut λu hb GZ fu X6 kb=>bP ?_))))
  have kb:Heap.SameBut i ha hb:=kb;have RX:IsPair hb tO c d:=(kb.2 _ (t9 q2)).trans ((ka.2 _ p2).trans eO);refine aS (v0 (s:={ s with heap:=hb,toks:=GZ}) RX rfl (aS (wpAny_updateSeq_pair (s:={ s with heap:=hb,toks:=GZ}) RX λhc Uu kc=>?_)))
  have kc:Heap.SameBut tO hb hc:=kc;refine aS (wpAny_letGo (bP ?_));have Wy:S2 k hc:=D2.frame k _ _ Wx λx hx o e=>by
   have hx:x=j\/x=b:=by rcases dS.mp hx with z |z;exact .inl z;exact .inr (gN.mp z)
   rw[kc.2 x (by rcases hx with rfl |rfl;exact q3;exact q5),kb.2 x (by rcases hx with rfl |rfl;exact t9 u3;exact v2)]
   exact e
  refine aS (aS (CF (aS (m:=Builtin.SmallTypes.nextOf (.ref j)) (D2.done { s with heap:=hc,toks:=GZ} _ _ Wy λhd e kd ex=>?_))))
  have kd:Heap.ExtBut j hc hd:=kd;have Ye:IsZip hd r tI tO .ellipsis:=kd _ _ (t9 p4) (by rw[kc.2 _ (t9 p2),kb.2 _ (t9 p3)];exact Eg)
  have WD:=stop hd e s.toks Ye ex;obtain⟨oe,x1,x2⟩:=ex;refine At (s:={ s with heap:=hd,toks:=GZ}) Ye ⋯ λhe _ ke=>?_
  have ke:Heap.SameBut r hd he:=ke;exact hE he e GZ (λx o y1 y2 y3 y4 z=>(ke.2 _ y1).trans (kd _ _ y4 (by rw[kc.2 _ y2,kb.2 _ y3];exact (ka.2 _ y1).trans z))) ⟨oe,(ke.2 _ WD).trans x1,x2⟩
end
section
theorem Bd{Q:Option Value->Shared->Prop}(N:Qa r tI tO i j a b)(D1:Draws prog w A.in1 i [i,a] n f S1)(D2:Draws prog w A.in1 j [j,b] m g S2)(hk1:k<n)(hk2:k<m)
  (er:IsZip s.heap r tI tO .none) (eI:IsPair s.heap tI (.ref i) (.ref j)) (eO:IsPair s.heap tO c d) (t1:S1 k s.heap) (t2:S2 k s.heap)
  (hQ:∀u v h' tk,f k u->g k v->IsZip h' r tI tO (rawInt s⁻¹)->IsPair h' tO u v->S1 (k+1) h'->S2 (k+1) h'->IsPair h' s⁻¹ u v->h'.objs.size=s⁻¹+1->
   (∀x o,x≠r->x≠tO->x≠i->x≠j->s.heap.get? x=some o->h'.get? x=some o)->Q (some (.ref s⁻¹)) { s with heap:=h',toks:=tk}):wpAny (model prog w) A (pyNext (.ref r)) Q E s:=by
 have ty:s.TypeIs (.ref r) "zip" :=⟨_,er,rfl⟩;unfold pyNext;exact aS (BE (mM (name:=Str.ofString "__next__") ty F.slot_zip_next (mE F.slot_zip_next ty F.entry_zip_next
  (Bc N D1 D2 hk1 hk2 er eI eO t1 t2 λu v h' tk b1 b2 b3 b4 b5 b6 b7 b8 b9=>bP (hQ u v h' tk b1 b2 b3 b4 b5 b6 b7 b8 b9)) (F.args_zip_next_1 _))))
theorem rJ(N:Qa r tI tO i j a b)(D1:Draws prog w A.in1 i [i,a] n f S1)(D2:Draws prog w A.in1 j [j,b] m g S2)(hk:k=n\/(k<n/\k=m))
  (er:IsZip s.heap r tI tO .none) (eI:IsPair s.heap tI (.ref i) (.ref j)) (eO:IsPair s.heap tO c d) (t1:S1 k s.heap) (t2:S2 k s.heap)
  (hQ:∀h' tk,(∀x o,x≠r->x≠tO->x≠i->x≠j->s.heap.get? x=some o->h'.get? x=some o)->Q none { s with heap:=h',toks:=tk}):wpAny (model prog w) A (pyNext (.ref r)) Q E s:=by
 have ty:s.TypeIs (.ref r) "zip" :=⟨_,er,rfl⟩;unfold pyNext;refine aS (BE (mM (name:=Str.ofString "__next__") ty F.slot_zip_next (mE F.slot_zip_next ty F.entry_zip_next
  (G0 N D1 D2 hk er eI eO t1 t2 λh' e tk kp ex=>?_) (F.args_zip_next_1 _))))
 obtain⟨o,x1,x2⟩:=ex;exact aS (A8 (T:= "StopIteration") (b:=true) ⟨o,x1,x2⟩ isSubtype_stop (bP (hQ _ tk kp)))
end
end
open L2 PySem.W SeqAt
section
theorem Inv.MT{h':Heap}{t':Nat}{ch:List Addr}(I:L2.Inv X ah σ H s)(hf:∀b∈ch,jf X ah H b)(k:∀b o,b∉ch->s.heap.get? b=some o->h'.get? b=some o):L2.Inv X ah σ H { s with heap:=h',toks:=t'}:=by
 have nH:∀b u,H b=some u->b∉ch:=λb u e z=>by rw[(hf b z).1]at e;cases e
 refine I.step (g':=s.gens) (d':=s.drawn) (ch:=ch) (λb hb=>?_) (λb o _ _ hc e _=>k b o hc e) (λb o _ _ hc e _=>⟨o.slots,k b o hc e⟩) (λ_ _ _ _ n=>n) (λb o hc e=>⟨o,k b o hc e⟩) (λ_ _ e=>e) (λ_ _ _ e=>e) (λb ps e=>⟨#[],by rw[e];simp⟩) (λm hm=>?_) (λb u e=>?_) I.bare
 . obtain⟨f0,f1,f2,f3,f4,f5⟩:=hf b hb;exact⟨f3,f1,f4,f5⟩
 . obtain⟨o,es,ep,ho,rr⟩:=hm;exact⟨o,es,ep,k _ o (λz=>(hf _ z).2.1 rfl) ho,rr⟩
 .
  refine (I.hok b u e).stay (λc w hc q=>k c w (λz=>?_) q) (λ_ q=>q) λ_ _ q=>q
  rcases hc with rfl |hc
  . exact nH _ _ e z
  . exact nH _ _ hc z
theorem Inv.M7{h':Heap}{t':Nat}{ch:List Addr}{xs:List V}{its:List Value}(I:L2.Inv X ah σ H s)(hf:∀b∈ch,jf X ah H b)(k:∀b o,b∉ch->s.heap.get? b=some o->h'.get? b=some o)(hz:xs.length<=sizeLine)(rv:Vals xs its)(ht:dI h' s⁻¹ its.toArray) :
  L2.Inv X ah σ (upd H s⁻¹ (.tup xs)) { s with heap:=h',toks:=t'}:=by
 have nH:∀b u,H b=some u->b∉ch:=λb u e z=>by rw[(hf b z).1]at e;cases e
 have fr:H s⁻¹=none:=I.hok.fresh (eA _);have nn:∀b u,H b=some u->b≠s⁻¹:=λb u e z=>by rw[z,fr]at e;cases e
 refine I.step (g':=s.gens) (d':=s.drawn) (ch:=ch) (λb hb=>?_) (λb o _ _ hc e _=>k b o hc e) (λb o _ _ hc e _=>⟨o.slots,k b o hc e⟩) (λb o _ e n=>by rw[az (kA (eP e))];exact n) (λb o hc e=>⟨o,k b o hc e⟩) (λb _ e=>by rw[az (nn _ _ e)];exact e) (λb _ _ e=>by rw[az (nn _ _ e)];exact e) (λb ps e=>⟨#[],by rw[az (nn _ _ e),e];simp⟩) (λm hm=>?_) (λb u e=>?_) I.bare
 . obtain⟨f0,f1,f2,f3,f4,f5⟩:=hf b hb;exact⟨f3,f1,f4,f5⟩
 . obtain⟨o,es,ep,ho,rr⟩:=hm;exact⟨o,es,ep,k _ o (λz=>(hf _ z).2.1 rfl) ho,rr⟩
 .
  by_cases hb:b=s⁻¹
  . subst hb;rw[aD]at e;cases e;exact⟨hz,its,rv,ht⟩
  .
   rw[az hb]at e;refine (I.hok b u e).stay (λc w hc q=>k c w (λz=>?_) q) (λc q=>by rw[az (nn _ _ q)];exact q) λc _ q=>by rw[az (nn _ _ q)];exact q
   rcases hc with rfl |hc
   . exact nH _ _ e z
   . exact nH _ _ hc z
end
theorem nZ.Jz(I:L2.Inv X ah σ H s)(h:nZ tp X.K H u us)(f:jf X ah H c):u≠c:=λz=>by
 subst z;have Yg:∀o,X.K.lookup u=some o->False:=λo e=>by
  have e0:=I.ok.mod.T6 u o e;rcases f.2.2.2.1 with q |q
  . exact I.ok.tL u o e0 q
  . exact absurd (fR (eP (I.ok.bs u o e0).1) q) (tJ _)
 cases tp with
 |true=>
  rcases (show eZ X.K H u us from h)with (h |⟨o,h⟩) |h
  . rw[f.1]at h;cases h
  . rw[f.1]at h;cases h
  . obtain⟨o,_,_,h,_⟩:=h;exact Yg _ h
 |false=>
  rcases (show bU X.K H u us from h)with (h |⟨o,h⟩) |h
  . rw[f.1]at h;cases h
  . rw[f.1]at h;cases h
  . obtain⟨o,_,_,h,_⟩:=h;exact Yg _ h
noncomputable def Yh(tp:Bool)(K:Frag)(a b:Addr):It:=
 ⟨λi H=>∃xs ys x y,nZ tp K H a xs/\nZ tp K H b ys/\xs[i]?=some x/\ys[i]?=some y,λi H x H'=>∃p u v,(∀xs,nZ tp K H a xs->xs[i]?=some u)/\(∀ys,nZ tp K H b ys->ys[i]?=some v)/\H p=none/\x=.ref p/\H'=upd H p (.tup [u,v]),
  λi H=>∃xs ys,nZ tp K H a xs/\nZ tp K H b ys/\(i=xs.length\/(i<xs.length/\i=ys.length))⟩
theorem Be{P:Program}{w:World}{K:Frag}{tp:Bool}{es:List Expr}{k:Nat}{pos:Pos}(r tI tO i j a b:Addr)(A1:tI≠r/\tO≠r/\i≠r/\j≠r)(A2:tI≠tO/\i≠tO/\j≠tO)(A3:tI≠i/\tI≠j/\i≠j) :
  Turn P w K (.Tuple es k pos) (Yh tp K a b) [r,tI,tO,i,j] r (λn h=>IsZip h r tI tO .none/\IsPair h tI (.ref i) (.ref j)/\(∃c d,IsPair h tO c d)/\Ef tp h i a n/\Ef tp h j b n) where
 mem:=by simp
 obj:=λn h st x hx=>by
  obtain⟨er,eI,⟨c,d,eO⟩,t1,t2⟩:=st;simp only[dS,i8,wS]at hx;rcases hx with rfl |rfl |rfl |rfl |rfl
  . exact⟨_,er,λv z=>nomatch (show Data.fields _=Data.cell v from z)⟩
  . exact⟨_,eI,λv z=>nomatch (show Data.seq _ _=Data.cell v from z)⟩
  . exact⟨_,eO,λv z=>nomatch (show Data.seq _ _=Data.cell v from z)⟩
  . obtain⟨o,vs,e1,e2⟩:=t1.obj;exact⟨o,e1,λv z=>by rw[e2]at z;cases z⟩
  . obtain⟨o,vs,e1,e2⟩:=t2.obj;exact⟨o,e1,λv z=>by rw[e2]at z;cases z⟩
 keep:=λn h h' st kp=>by
  obtain⟨er,eI,⟨c,d,eO⟩,t1,t2⟩:=st;exact⟨kp r ⋯ _ er,kp tI ⋯ _ eI,⟨c,d,kp tO ⋯ _ eO⟩,t1.keep λo q=>kp i ⋯ o q,t2.keep λo q=>kp j ⋯ o q⟩
 item:=by
  intro X hP hw hK hc n ah s σ H E I hf st hg;subst hP hw hK;obtain⟨er,eI,⟨c,d,eO⟩,t1,t2⟩:=st;obtain⟨xs,ys,x,y,qx,qy,gx,gy⟩:=hg;obtain⟨RZ,rx,R0,zx⟩:=qx.real I;obtain⟨R3,ry,R4,zy⟩:=qy.real I;have nf:∀{u:Addr}{us:List V}{c:Addr},nZ tp X.K H u us->c∈[r,tI,tO,i,j]->u≠c:=λh hc=>nZ.Jz I h (hf _ hc)
  have N:Qa r tI tO i j a b:=⟨⟨A1.1,A1.2.1,A1.2.2.1,A1.2.2.2,nf qx ⋯,nf qy ⋯⟩,⟨A2.1,A2.2.1,A2.2.2,nf qx ⋯,nf qy ⋯⟩,A3,⟨nf qx ⋯,nf qy ⋯,nf qx ⋯,nf qy ⋯⟩⟩;have l1:n<RZ.length:=by rw[<- rx.length];exact (dE.mp gx).1
  have l2:n<R3.length:=by rw[<- ry.length];exact (dE.mp gy).1
  refine Bd (A:=X.A) N (pQ (tp:=tp) (A:=X.A.in1) (I.ok.hd hc) (nf qx ⋯) RZ) (pQ (tp:=tp) (A:=X.A.in1) (I.ok.hd hc) (nf qy ⋯) R3) l1 l2 er eI eO ⟨t1,R0⟩ ⟨t2,R4⟩ λu v h1 tk fu gv Eg ZJ s1 s2 new sz kp=>⟨_,rfl,?_⟩
  refine wpAny_letOwnedTupleGo_zip (s:={ s with heap:=h1,toks:=tk}) Eg λh2 ZK k2=>?_
  have k2:Heap.SameBut r h1 h2:=k2;obtain⟨u',e1,ru⟩:=rx.get gx;obtain⟨v',e2,rv⟩:=ry.get gy;rw[fu]at e1;cases e1;rw[gv]at e2;cases e2;have pr:s⁻¹≠r:=B5 (eP er);have kk:∀x o,x∉[r,tO,i,j]->s.heap.get? x=some o->h2.get? x=some o:=λx o hx e=>by
   simp only[dS,i8,wS,not_or]at hx;exact (k2.2 x hx.1).trans (kp x o hx.1 hx.2.1 hx.2.2.1 hx.2.2.2 e)
  have J:=Inv.M7 (t':=tk) (xs:=[x,y]) (its:=[u,v]) I (ch:=[r,tO,i,j]) (λc hc=>hf c (by simp only[dS,i8,wS]at hc ⊢;rcases hc with h |h |h |h <;> simp[h])) kk (by rw[oC];show 2<=16777216;decide) (.cons ru (.cons rv .nil)) ⟨_,(k2.2 _ pr).trans new,⟨rfl,_,rfl⟩,rfl⟩
  have ZL:IsPair h2 tI (.ref i) (.ref j):=kk _ _ (by simp[A1.1,A2.1,A3.1,A3.2.1]) eI
  refine⟨.ref s⁻¹,_,J,rfl,⟨_,x,y,λzs hz=>by rw[hz.inj I qx];exact gx,λzs hz=>by rw[hz.inj I qy];exact gy,I.hok.fresh (eA _),rfl,rfl⟩,⟨ZK,ZL,⟨u,v,(k2.2 _ A1.2.1).trans ZJ⟩,s1.1.keep λo q=>(k2.2 _ A1.2.2.1).trans q,s2.1.keep λo q=>(k2.2 _ A1.2.2.2).trans q⟩,λc hc=>?_⟩
  have hcn:c≠s⁻¹:=λz=>by
   have:∃o,s.heap.get? c=some o:=by
    simp only[dS,i8,wS]at hc;rcases hc with rfl |rfl |rfl |rfl |rfl
    . exact⟨_,er⟩
    . exact⟨_,eI⟩
    . exact⟨_,eO⟩
    . obtain⟨o,_,e,_⟩:=t1.obj;exact⟨o,e⟩
    . obtain⟨o,_,e,_⟩:=t2.obj;exact⟨o,e⟩
   obtain⟨o,e⟩:=this;exact absurd (eP e) (by rw[z];exact tJ _)
  rw[az hcn];exact (hf c hc).1
 done:=by
  intro X hP hw hK hc n ah s σ H E I hf st hg;subst hP hw hK;obtain⟨er,eI,⟨c,d,eO⟩,t1,t2⟩:=st;obtain⟨xs,ys,qx,qy,hn⟩:=hg;obtain⟨RZ,rx,R0,zx⟩:=qx.real I;obtain⟨R3,ry,R4,zy⟩:=qy.real I;have nf:∀{u:Addr}{us:List V}{c:Addr},nZ tp X.K H u us->c∈[r,tI,tO,i,j]->u≠c:=λh hc=>nZ.Jz I h (hf _ hc)
  have N:Qa r tI tO i j a b:=⟨⟨A1.1,A1.2.1,A1.2.2.1,A1.2.2.2,nf qx ⋯,nf qy ⋯⟩,⟨A2.1,A2.2.1,A2.2.2,nf qx ⋯,nf qy ⋯⟩,A3,⟨nf qx ⋯,nf qy ⋯,nf qx ⋯,nf qy ⋯⟩⟩;refine rJ (A:=X.A) N (pQ (tp:=tp) (A:=X.A.in1) (I.ok.hd hc) (nf qx ⋯) RZ) (pQ (tp:=tp) (A:=X.A.in1) (I.ok.hd hc) (nf qy ⋯) R3) (by rw[<- rx.length,<- ry.length];exact hn) er eI eO ⟨t1,R0⟩ ⟨t2,R4⟩ λh1 tk kp=>⟨rfl,?_⟩
  exact Inv.MT (t':=tk) I (ch:=[r,tO,i,j]) (λc hc=>hf c (by simp only[dS,i8,wS]at hc ⊢;rcases hc with h |h |h |h <;> simp[h])) λx o hx e=>by
   simp only[dS,i8,wS,not_or]at hx;exact kp x o hx.1 hx.2.1 hx.2.2.1 hx.2.2.2 e
 self:=λA n s Q E st h=>wpAny_pyIter_zip st.1 h
open L2 PySem.W SeqAt
section
noncomputable abbrev R5(h:Heap)(a:Addr):Heap:=h.push { cls:=.type "tuple_iterator",data:=.fields #[.ref a,.int 0 0]}
abbrev Ux(h:Heap)(a b:Addr):Heap:=(R5 h a).push { cls:=.type "tuple_iterator",data:=.fields #[.ref b,.int 0 0]}
abbrev Uy(h:Heap)(a b:Addr):Heap:=(Ux h a b).push { cls:=.type "tuple",data:=.seq #[.ref h.objs.size,.ref (R5 h a).objs.size]}
abbrev Uz(h:Heap)(a b:Addr):Heap:=(Uy h a b).push { cls:=.type "tuple",data:=.seq #[.none,.none]}
abbrev Qd (h:Heap) (a b:Addr):Heap:=(Uz h a b).push { cls:=.type "zip",data:=.fields #[.none,.bool false,.bool false,.ref (Ux h a b).objs.size,.ref (Uy h a b).objs.size]}
theorem uD(a b:Addr)(xs ys:Array Value) :
  Meets (Builtin.«zip.__new__» ⟨[.type "zip",.ref a,.ref b],[]⟩) (λ_ R s=>s.heap.IsTuple a xs/\s.heap.IsTuple b ys/\R (.ok (.ret (.ref (Uz s.heap a b).objs.size))) { s with heap:=Qd s.heap a b}):=
 .of_wp λprog w A R s h=>by
  obtain⟨hp,g,d,tk,os⟩:=s;obtain⟨ta,tb,h⟩:=h;have hsub:=sub_zip;have T1:Heap.IsTuple (Shared.heap ⟨hp,g,d,tk,os⟩) a xs:=ta;have T2:Heap.IsTuple (Shared.heap ⟨R5 hp a,g,d,tk,os⟩) b ys:=by obtain⟨o,e,rr⟩:=tb;exact⟨o,a9 _ e,rr⟩
  wp_walk using BC T1,BC T2
  exact⟨_,rfl,h⟩
theorem xY(ta:s.heap.IsTuple a xs)(tb:s.heap.IsTuple b ys)
  (h:∀h',IsZip h' (s⁻¹+4) (s⁻¹+2) (s⁻¹+3) .none->IsPair h' (s⁻¹+2) (.ref s⁻¹) (.ref (s⁻¹+1))->
   IsPair h' (s⁻¹+3) .none .none->h'.IsTupleIter s⁻¹ a 0->h'.IsTupleIter (s⁻¹+1) b 0->h'.objs.size=s⁻¹+5->
   (∀c o,s.heap.get? c=some o->h'.get? c=some o)->Q (.ref (s⁻¹+4)) { s with heap:=h'}) :
  wpAny (model prog w) A (call (.type "zip") [.ref a,.ref b]) Q E s:=by
 refine callType_new F.called_zip ⋯ (F.typeCall_zip_2 _ _) (F.newCall_zip_2 _ _) (λobj=>F.args_object_init_3 obj _ _) F.entry_zip_new (uD a b xs ys) ⟨ta,tb,?_⟩
 have s1:(R5 s.heap a).objs.size=s⁻¹+1:=vS ..;have s2:(Ux s.heap a b).objs.size=s⁻¹+2:=by rw[vS,s1]
 have s3:(Uy s.heap a b).objs.size=s⁻¹+3:=by rw[vS,s2]
 have s4:(Uz s.heap a b).objs.size=s⁻¹+4:=by rw[vS,s3]
 have o5:(Qd s.heap a b).get? (Uz s.heap a b).objs.size=some _:=eC _ rfl;have o4:(Qd s.heap a b).get? (Uy s.heap a b).objs.size=some _:=a9 _ (eC _ rfl);have o3:(Qd s.heap a b).get? (Ux s.heap a b).objs.size=some _:=a9 _ (a9 _ (eC _ rfl));have o2:(Qd s.heap a b).get? (R5 s.heap a).objs.size=some _:=a9 _ (a9 _ (a9 _ (eC _ rfl)));have o1:(Qd s.heap a b).get? s⁻¹=some _:=a9 _ (a9 _ (a9 _ (a9 _ (eC _ rfl))));show _/\_;rw[s4]at o5 ⊢
 rw[s2,s3]at o5;rw[s2,s1]at o3;rw[s3]at o4;rw[s1]at o2;exact⟨⟨_,o5,rfl⟩,h _ o5 o3 o4 ⟨_,o1,rfl,rfl⟩ ⟨_,o2,rfl,rfl⟩ (by rw[vS,s4]) λc o e=>a9 _ (a9 _ (a9 _ (a9 _ (a9 _ e))))⟩
end
noncomputable def pR(l m:List D):List D:=(l.zip m).map λp=>.tup [p.1,p.2]
theorem Bf{l m:List D}{n:Nat}{d:D}(h:(pR l m)[n]?=some d):∃x y,l[n]?=some x/\m[n]?=some y/\d=.tup [x,y]:=by
 unfold pR at h;rw[mP]at h;cases e:(l.zip m)[n]? with
 |none=>rw[e]at h;cases h
 |some q=>rw[e]at h;cases h;obtain⟨h1,h2⟩:=List.getElem?_zip_eq_some.mp e;exact⟨q.1,q.2,h1,h2,rfl⟩
theorem Bg(l m:List D):(pR l m).length=min l.length m.length:=by simp[pR]
section
def isTup:D->Bool
 |.tup _=>true
 |_=>false
theorem Rep.Yi{K:Frag}{M:List Addr}{H:Hp}{d:D}{v:V}{l:List D}(r:Rep K M H d v)(h:eL d=some l):∃a xs,v=.ref a/\aC K M H l xs/\∀M2 H2,ao M H M2 H2->nZ (isTup d) K H2 a xs:=by
 cases r with
 |@lst _ a xs hb rr=>cases h;exact⟨a,xs,rfl,rr,λM2 H2 st=>bU.of (st _ _ hb.2 hb.1).1⟩
 |@tup _ a xs hb rr=>
  cases h;refine⟨a,xs,rfl,rr,λM2 H2 st=>?_⟩
  have:TupAt K M2 H2 a xs:=by
   rcases hb with ⟨na,hr⟩ |hk
   . exact .inl (st.rd na hr)
   . exact .inr hk
  exact this.sq
 |@fix _ a xs hb rr=>
  cases h;refine⟨a,xs,rfl,rr,λM2 H2 st=>?_⟩
  have:kM K M2 H2 a xs:=by
   rcases hb with ⟨na,o,hr⟩ |hk
   . exact .inl ⟨(st _ _ hr na).2,o,(st _ _ hr na).1⟩
   . exact .inr hk
  exact this.sq
 |_=>cases h
theorem xZ(ta:Us tp s.heap a xs)(tb:Us tp s.heap b ys)
  (h:∀h',IsZip h' (s⁻¹+4) (s⁻¹+2) (s⁻¹+3) .none->IsPair h' (s⁻¹+2) (.ref s⁻¹) (.ref (s⁻¹+1))->
   IsPair h' (s⁻¹+3) .none .none->Ef tp h' s⁻¹ a 0->Ef tp h' (s⁻¹+1) b 0->h'.objs.size=s⁻¹+5->
   (∀c o,s.heap.get? c=some o->h'.get? c=some o)->Q (.ref (s⁻¹+4)) { s with heap:=h'}):wpAny (model prog w) A (call (.type "zip") [.ref a,.ref b]) Q E s:=by
 cases tp with
 |true=>exact xY ta tb h
 |false=>exact call_zip_2 ta tb h
theorem M8{d1 d2:D}{l m:List D}(hK:z.K=X.K)(ha:bW X z [e1,e2] g [.dat d1,.dat d2] g1)(h1:eL d1=some l)(h2:eL d2=some m)(hkd:isTup d1=isTup d2)(hg:Gl X "zip")(hm:X.mg "zip"=none)(dH:starEach [e1,e2] X.env=(false,eval e1 X.env)::starEach [e2] X.env)(iA:(backTo rp (starEach [e2] X.env)).any (·.1)=false) :
  fc X z (.Tuple es k pos) (.Call (.Name "zip" p) [e1,e2] [] rp) g (pR l m) g1:=by
 refine fc.of λah s σ As M H Post I ZM kk=>?_
 refine Call_ (dJ I hg hm boot_zip (mN (ha.run I ZM λvs us s1 H1 aR M1 I1 r1 q1 q2 q3=>?_) dH iA))
 cases q3 with
 |dat ZN R=>cases R with
  |dat ZP R=>
   cases R;obtain⟨u1,u2,rfl,WK,ZQ⟩:=vals2 r1;obtain⟨a,xs,rfl,Yj,Yk⟩:=ZN.Yi h1;obtain⟨b,ys,rfl,Jy,WL⟩:=ZP.Yi h2;cases WK;cases ZQ;rw[<- hkd]at WL;have sa:nZ (isTup d1) X.K H1 a xs:=hK▸Yk M1 H1 (ao.refl _ _);have sb:nZ (isTup d1) X.K H1 b ys:=hK▸WL M1 H1 (ao.refl _ _);obtain⟨RZ,_,R0,_⟩:=sa.real I1;obtain⟨R3,_,R4,_⟩:=sb.real I1;refine xZ R0 R4 λh' er eI eO t1 t2 tK hk=>kk _ _ λR kR=>?_
   refine wpAny_pyIter_zip er ?_;have I2:L2.Inv X ah σ H1 { s1 with heap:=h'}:=I1.kept (t':=s1.toks) hk;refine⟨_,[s1⁻¹+4,s1⁻¹+2,s1⁻¹+3,s1⁻¹,s1⁻¹+1],_,Yh (isTup d1) X.K a b,H1,rfl,I2,Be (s1⁻¹+4) (s1⁻¹+2) (s1⁻¹+3) s1⁻¹ (s1⁻¹+1) a b (by refine⟨?_,?_,?_,?_⟩ <;> (intro q;have q:(_:Nat)=_:=q;lia)) (by refine⟨?_,?_,?_⟩ <;> (intro q;have q:(_:Nat)=_:=q;lia)) (by refine⟨?_,?_,?_⟩ <;> (intro q;have q:(_:Nat)=_:=q;lia)),⟨er,eI,⟨_,_,eO⟩,t1,t2⟩,λc hc=>?_,kR _ H1 aR M1 q1 q2 λM2 H2 aM=>?_⟩
   .
    have hle:s1⁻¹<=c:=by simp only[dS,i8,wS]at hc;rcases hc with rfl |rfl |rfl |rfl |rfl <;> lia
    exact I1.zo hle (I1.hok.fresh hle)
   .
    have s1':=hK▸Yk M2 H2 aM;have s2':=hK▸WL M2 H2 aM;have R1:=Yj.stay aM;have R2:=Jy.stay aM;refine⟨λn d hd=>?_,xs,ys,s1',s2',?_⟩
    .
     obtain⟨x,y,f1,f2,rfl⟩:=Bf hd;obtain⟨vx,e2,e3⟩:=R1.get f1;obtain⟨vy,e4,e5⟩:=R2.get f2;refine⟨⟨xs,ys,vx,vy,s1',s2',e2,e4⟩,λw H' hy z' g' σ' au hz' s'=>?_⟩
     obtain⟨p,u,v,w1,w2,w3,rfl,rfl⟩:=hy;have w1:=w1 xs s1';have w2:=w2 ys s2';rw[e2]at w1;cases w1;rw[e4]at w2;cases w2;exact⟨s'.laid w3,ao.laid w3,.tup (.inl ⟨s'.fresh w3,.inl aD⟩) (.cons (e3.stay (ao.laid w3)) (.cons (e5.stay (ao.laid w3)) .nil))⟩
    . rw[Bg,Yj.length,Jy.length];lia
end
end Ev
namespace L2
def vV(T:List Addr)(H:Hp):Prop:=∀b,(b∈T/\H b=some (.yS #[]))\/(b∉T/\(H b=none\/∃o xs,H b=some (.yR o (.lst xs))))
theorem x6{P:Program}{w:World}{K:Frag}{mg mb:Str->Option Value}{CX:zB}{k:Nat}{fa a:Addr}{fd:FuncData}{x:Str}{sp:Sp}{s₁:Shared}{vs:List Value}{ns:List Int}{T:List Addr}
  (KX:K.In s₁.heap) (hT:∀q∈T,(∃c,s₁.heap.TableAt c q #[])/\K.lookup q=none) (hns:s₁.heap.Ns mainGlobals mg) (hb:s₁.heap.Ns builtinsNs mb) (ZR:∀x:Str,x≠ "__name__" ->mb x=bootBuiltins x) (hlim:s₁.heap.NoLimit) (hg:s₁.gens = #[])
  (ha:s₁.heap.get? a=some { cls:=.type "list",data:=.seq vs.toArray}) (hi:IntsAre vs ns) (hl:ns.length<=sizeLine) (hr:dR k callerA)
  (F:∀base:Heap,K.In base->base.Ns mainGlobals mg->mH P w K mg base CX k fa fd [x] sp) (hbind:∀(s:Shared) (u:Value),BindsTo s fd ⟨[u],[]⟩ [(x,u)])
  (P5:∀H:Hp,vV T H->bU K H a (ns.map V.int)->sp [.ref a] H (λv _=>v=.bl true) λ_ _ _=>False)
  (WM:∀H e s',CX [] H s₁ (λ_ _ _=>False) e s'->False) :
  codeAny (model P w) callerA (.call (.ref fa) ⟨[.ref a],[]⟩) (λr s'=>r=.ok (.ret (.bool true))/\OldK s₁.heap s'.heap/\s'.os=s₁.os/\AllBare s'.gens) s₁:=by
 have rv:=jh hi;have lenV:=hi.length;have aT:a∉T:=λh=>by
  obtain⟨⟨c,_,e⟩,_⟩:=hT a h;rw[ha]at e;cases e
 have core:∀H:Hp,vV T H->bU K H a (ns.map V.int)->kB P w H s₁.heap->(∀b,H b≠none->b=a\/b∈T)->(H a≠none->K.lookup a=none)->
   codeAny (model P w) callerA (.call (.ref fa) ⟨[.ref a],[]⟩) (λr s'=>r=.ok (.ret (.bool true))/\OldK s₁.heap s'.heap/\s'.os=s₁.os/\AllBare s'.gens) s₁:=by
  intro H hO hS hok hA hK;have vW:∀{b:Addr}{o:Obj},s₁.heap.get? b=some o->H b=none->(oO s₁.heap H).get? b=some o:=λe n=>za e n
  have Q6:∀{b:Addr}{o:Obj}{es:Array DictEntry}{ep:Nat},s₁.heap.get? b=some o->o.data=.dict es ep->H b=none:=λ{b o es ep} e d=>by
   cases q:H b with
   |none=>rfl
   |some u=>
    rcases hA b (by rw[q];simp)with e' |e'
    . subst e';rw[ha]at e;cases e;have d':Data.seq vs.toArray _=Data.dict es ep:=d;cases d'
    . obtain⟨⟨c,_,e2⟩,_⟩:=hT b e';rw[e]at e2;cases e2;have d':Data.fields #[]=Data.dict es ep:=d;cases d'
  have UG:∀{b:Addr}{m:Str->Option Value},s₁.heap.Ns b m->(oO s₁.heap H).Ns b m:=λ{b m} ⟨o,es,ep,e,d,r⟩=>⟨o,es,ep,vW e (Q6 e d),d,r⟩
  have JB:K.In (oO s₁.heap H):=λb o e=>vW (KX b o e) (by
   cases q:H b with
   |none=>rfl
   |some u=>
    rcases hA b (by rw[q];simp)with e' |e'
    . subst e';rw[hK (by rw[q];simp)]at e;cases e
    .
     rw[(hT b e').2]at e;cases e)
  have hM:Mod K mg (oO s₁.heap H):=⟨JB,UG hns,⟨mb,UG hb,ZR⟩,let ⟨mc,h1,h2⟩:=hlim;⟨mc,UG h1,h2⟩⟩
  have e0:Fb P w K mg (oO s₁.heap H) callerA [] s₁ H:=⟨rfl,hM,λb o e=>Em e,Nat.le_of_eq (wO _ _),trivial,λb hb=>absurd (show b∈([]:List Addr)from hb) ⋯,hok,.of_eq hg⟩
  refine C3 ((F _ JB (UG hns)).run callerA [] s₁ H ⟨[.ref a],[]⟩ [.ref a] [.ref a] _ _ hr e0 (hbind s₁ (.ref a)) (.cons rfl .nil) (P5 H hO hS)) λr s' h=>?_
  cases r with
  |error e=>exact (WM H e s' h).elim
  |ok fl=>
   cases fl with
   |next=>exact False.elim h
   |brk=>exact False.elim h
   |cont=>exact False.elim h
   |ret u=>
    obtain⟨v,H',os,bare,un,R7,r',q⟩:=h;have q':v=.bl true:=q;subst q';obtain rfl:u=Value.bool true:=r';have tabs:∀b∈T,∀o,s₁.heap.get? b=some o->∃more,o={ cls:=.none,data:=.fields #[]}/\s'.heap.get? b=some { cls:=.none,data:=.fields more}:=λb hb o e=>by
     obtain⟨⟨c,_,e2⟩,_⟩:=hT b hb;rw[e]at e2;cases e2;rcases hO b with ⟨_,z⟩ |⟨z,_⟩
     . obtain⟨more,z2⟩:=un.oN b _ z;exact⟨_,rfl,R7 b _ z2⟩
     . exact absurd hb z
    have rest:∀b,b∉T->∀o,s₁.heap.get? b=some o->s'.heap.get? b=some o:=λb hb o e=>by
     cases q:H b with
     |none=>exact un.keep b o e q (by intro z;exact absurd (show b∈([]:List Addr)from z) ⋯) ⋯
     |some u=>
      rcases hO b with ⟨z,_⟩ |⟨_,z⟩
      . exact absurd z hb
      .
       rcases z with z |⟨ob,xs,z⟩
       . rw[q]at z;cases z
       . have z2:=un.oM b ob _ z;obtain⟨e1,_⟩:=hok b _ z;obtain⟨e2,_⟩:=R7 b _ z2;rw[e]at e1;cases e1;exact e2
    refine⟨rfl,⟨λb o e=>?_,λb o e=>?_⟩,os,bare⟩
    .
     by_cases hb:b∈T
     . obtain⟨more,rfl,e2⟩:=tabs b hb o e;obtain⟨⟨c,t⟩,_⟩:=hT b hb;exact .inr (.inl ⟨t.isCodeTable,rfl,#[],more,rfl,by rw[e2];simp⟩)
     . exact .inl (rest b hb o e)
    .
     by_cases hb:b∈T
     . obtain⟨more,rfl,e2⟩:=tabs b hb o e;exact⟨_,e2⟩
     . exact⟨_,rest b hb o e⟩
 have Bh:∀b∈T,s₁.heap.get? b=some { cls:=.none,data:=.fields #[]}:=λb hb=>by
  obtain⟨⟨c,_,e2⟩,_⟩:=hT b hb;exact e2
 cases hk:K.lookup a with
 |some o=>
  have e:=KX a o hk;rw[ha]at e;cases e;refine core (λb=>if b∈T then some (.yS #[])else none) (λb=>?_) (.inr ⟨_,vs.toArray,_,hk,rfl,rfl,rfl,by rw[dA,lenV];exact hl,by simpa using rv⟩) (λb u z=>?_) (λb z=>?_) λz=>absurd (fI aT) z
  .
   by_cases hb:b∈T
   . exact .inl ⟨hb,fN hb⟩
   . exact .inr ⟨hb,.inl (fI hb)⟩
  .
   by_cases hb:b∈T
   . have z':=(fN hb).symm.trans z;cases z';exact Bh b hb
   . have z':=(fI hb).symm.trans z;cases z'
  .
   by_cases hb:b∈T
   . exact .inr hb
   . exact absurd (fI hb) z
 |none=>
  refine core (λb=>if b∈T then some (.yS #[])else if b=a then some (.yR { cls:=.type "list",data:=.seq vs.toArray} (.lst (ns.map V.int)))else none) (λb=>?_) (.inl (.inr ⟨{ cls:=.type "list",data:=.seq vs.toArray},(fI aT).trans (fN rfl)⟩)) (λb u z=>?_) (λb z=>?_) λ_=>hk
  .
   by_cases hb:b∈T
   . exact .inl ⟨hb,fN hb⟩
   .
    refine .inr ⟨hb,?_⟩;by_cases hb2:b=a
    . exact .inr ⟨_,_,(fI hb).trans (fN hb2)⟩
    . exact .inl ((fI hb).trans (fI hb2))
  .
   by_cases hb:b∈T
   . have z':=(fN hb).symm.trans z;cases z';exact Bh b hb
   .
    have z1:=(fI hb).symm.trans z;by_cases hb2:b=a
    . have z':=(fN hb2).symm.trans z1;cases z';subst hb2;exact⟨ha,by rw[gL];exact hl,vs,_,rv,ha⟩
    . have z':=(fI hb2).symm.trans z1;cases z'
  .
   by_cases hb:b∈T
   . exact .inr hb
   .
    by_cases hb2:b=a
    . exact .inl hb2
    . exact absurd ((fI hb).trans (fI hb2)) z
end L2
namespace Ev
open L2
end Ev
namespace PySem
end PySem
namespace Ev
open L2
noncomputable def R8(K:Frag)(C D:Addr):Bool:=match K.lookup C with
 |some ⟨_,_,.cls cd,_⟩=>cd.mro.contains (.ref D)
 |_=>false
end Ev
namespace L2
end L2
namespace Ev
open L2
structure Lt where
 params:Arguments
 body:Expr
 scope:Scope
 pos:Pos
noncomputable abbrev Lt.ex(l:Lt):Expr:=.Lambda l.params l.body l.scope l.pos
open L2 PySem.W
noncomputable def yR:Slot->Slot
 |.own l=>.dat (.lst l)
 |s=>s
inductive Qe(X:Cx):List Stmt->List TS->Prop
 |nil:Qe X [] []
 |cons {s:Stmt}{ss:List Stmt}{t:TS}{ts:List TS}:PS X s t->Qe X ss ts->Qe X (s::ss) (t::ts)
def M9:List TS->TS->TS
 | [],u=>u
 |t::ts,u=>Qz t (M9 ts u)
theorem Qe.Yl{X:Cx}{ss rest:List Stmt}{ts:List TS}{u:TS}(h:Qe X ss ts)(hu:qI X rest u):qI X (ss++rest) (M9 ts u):=by
 induction h with
 |nil=>exact hu
 |cons a _ ih=>exact fC a ih
def Bj(X:Cx)(z:Z)(ss:List Stmt)(g:G)(f:Fl)(g':G):Prop:=
 ∃ts,Qe X ss ts/\∀(u:TS) σ As M H (E:Ends),S z g σ As M H->nL z M H { E with nx:=u E} g' f->M9 ts u E σ H
theorem Bj.bk{X:Cx}{z:Z}{ss rest:List Stmt}{g g1 g':G}{f:Fl}(h:Bj X z ss g .nx g1)(h2:cS X z rest g1 f g'):cS X z (ss++rest) g f g':=by obtain⟨t2,q2,k2⟩:=h2;obtain⟨t,q,k⟩:=h;exact⟨_,q.Yl q2,λσ As M H E s kE=>k t2 σ As M H E s λσ' au M' H' s' st=>k2 σ' au M' H' E s' (kE.trans st)⟩
theorem Bj.end{X:Cx}{z:Z}{ss rest:List Stmt}{g g':G}{f:Fl}(h:Bj X z ss g f g')(hn:f≠.nx):cS X z (ss++rest) g f g':=by
 obtain⟨t,q,k⟩:=h;refine⟨_,q.Yl cN,λσ As M H E s kE=>k _ σ As M H E s ?_⟩
 cases f with
 |nx=>exact absurd rfl hn
 |rt r=>exact kE
 |bk=>exact kE
 |ct=>exact kE
inductive G3(z:Z)(As M:List Addr)(H:Hp):List Addr->List (List D)->Prop
 |nil:G3 z As M H [] []
 |cons {p:Addr}{as:List Addr}{xs:List V}{l:List D}{ll:List (List D)}:p∈M->p∉As->z.H0 p=none->H p=some (.lst xs)->aC z.K M H l xs->G3 z As M H as ll->G3 z As M H (p::as) (l::ll)
def Rows(z:Z)(g:G)(iy:Nat)(M0:List Addr)(H0:Hp)(ll:List (List D))(σ:Sg)(H:Hp):Prop:=
 ∃As M a as,S z g σ As M H/\ao M0 H0 M H/\σ[iy]?=some (some (.ref a))/\a∈M/\a∉As/\z.H0 a=none/\H a=some (.lst (as.map .ref))/\a∉as/\as.Nodup/\G3 z As M H as ll
end Ev
namespace HT
open PySem PyProof.Rows
end HT
namespace Ev
open L2
mutual
noncomputable def jU:D->Bool
 |.tup l=>fj l
 |.lst l=>fj l
 |.fix l=>fj l
 |.qB ..=>false
 |_=>true
noncomputable def fj:List D->Bool
 | []=>true
 |d::l=>jU d&&fj l
end
def pS:G->Bool
 | []=>true
 |.no::g=>pS g
 |.dat d::g=>jU d&&pS g
 |.own l::g=>fj l&&pS g
theorem rK:∀{l m:List D},fj l=true->fj m=true->fj (l++m)=true
 | [],_,_,h=>h
 |d::l,_,h,k=>by
  have h:(jU d&&fj l)=true:=h;rw[eJ]at h;show (jU d&&fj (l++_))=true;rw[h.1,rK h.2 k];rfl
section
variable{K:Frag}{M:List Addr}{H:Hp}{q:Addr}{cG:List (List Key×V)}{u:HO}
theorem Rep.Bm(hq:H q=some (.dT cG)){d:D}{v:V}(r:Rep K M H d v):jU d=true->Rep K M (upd H q u) d v:=by
 have ne:∀{b:Addr}{o:HO},H b=some o->(∀l,o≠.dT l)->upd H q u b=some o:=λ{b o} e n=>by
  rw[az (λz=>by rw[z,hq]at e;cases e;exact n _ rfl)];exact e
 refine Rep.rec (motive_1:=λd v _=>jU d=true->Rep K M (upd H q u) d v) (motive_2:=λds vs _=>fj ds=true->aC K M (upd H q u) ds vs) (λ_=>.non) (λb _=>.bl b) (λi _=>.int i) (λx _=>.str x) (λt _ ih h=>?_) (λt _ ih h=>?_) (λt _ ih h=>?_) (λn r _=>.emp n (ne r λ_ e=>nomatch e)) (λx n r _=>.vG x n (ne r λ_ e=>nomatch e)) (λ_ _ _ _ _ h=>Bool.noConfusion (show false=true from h)) (λ_=>.nil) (λ_ _ i1 i2 h=>?_) r
 .
  rcases t with ⟨n,t |⟨o,t⟩⟩ |t
  . exact .tup (.inl ⟨n,.inl (ne t λ_ e=>nomatch e)⟩) (ih h)
  . exact .tup (.inl ⟨n,.inr ⟨o,ne t λ_ e=>nomatch e⟩⟩) (ih h)
  . exact .tup (.inr t) (ih h)
 . exact .lst ⟨t.1,ne t.2 λ_ e=>nomatch e⟩ (ih h)
 .
  rcases t with ⟨n,o,t⟩ |t
  . exact .fix (.inl ⟨n,o,ne t λ_ e=>nomatch e⟩) (ih h)
  . exact .fix (.inr t) (ih h)
 . have h:(jU _&&fj _)=true:=h;rw[eJ]at h;exact .cons (i1 h.1) (i2 h.2)
theorem aC.Bm(hq:H q=some (.dT cG)):∀{ds:List D}{vs:List V},aC K M H ds vs->fj ds=true->aC K M (upd H q u) ds vs
 | [],_,r,_=>by cases r;exact .nil
 |d::ds,_,r,h=>by
  have h:(jU d&&fj ds)=true:=h;rw[eJ]at h;cases r with
  |cons a b=>exact .cons (a.Bm hq h.1) (b.Bm hq h.2)
theorem Slots.Bm(hq:H q=some (.dT cG)){g:G}{σ:Sg}{As:List Addr}(s:Slots K M H g σ As):pS g=true->Slots K M (upd H q u) g σ As:=by
 induction s with
 |nil=>exact λ_=>.nil
 |no _ ih=>exact λh=>.no (ih h)
 |@dat g σ As v d r _ ih=>intro h;have h:(jU d&&pS g)=true:=h;rw[eJ]at h;exact .dat (r.Bm hq h.1) (ih h.2)
 |@own g σ As a xs ds e r _ ih=>intro h;have h:(fj ds&&pS g)=true:=h;rw[eJ]at h;exact .own (by rw[az (λz=>by rw[z,hq]at e;cases e)];exact e) (aC.Bm hq r h.1) (ih h.2)
end
section
variable{z:Z}{g:G}{σ:Sg}{As M:List Addr}{H:Hp}
theorem S.Bm(s:S z g σ As M H){q:Addr}{cG:List (List Key×V)}{u:HO}(hq:H q=some (.dT cG))(hn:q∉M)(h0:z.H0 q=none)(h:pS g=true):S z g σ As M (upd H q u) where
 sl:=s.sl.Bm hq h
 nd:=s.nd
 sub:=s.sub
 own:=s.own
 live:=λm hm=>by
  rcases s.live m hm with ⟨o,e,gr⟩ |e
  . exact .inl ⟨o,by rw[az (λ(z:m=q)=>hn (by rw[<- z];exact hm))];exact e,gr⟩
  . exact .inr e
 keep:=λb o e hb ht=>by rw[az (λz=>by rw[z,h0]at e;cases e)];exact s.keep b o e hb ht
 mQ:=s.mQ
 m0:=s.m0
 bm:=s.bm
 kN:=s.kN
 tab:=λp hp=>(s.tab p hp).keep λb o e n=>by rw[az (λz=>by rw[z,hq]at e;cases e;exact n trivial)];exact e
 tm:=s.tm
 tt:=s.tt
def gD(k:Nat)(g:G):G:=g++List.replicate (k+1) .no
theorem rL{K:Frag}:∀τ:Sg,Slots K M H (List.replicate τ.length .no) τ []
 | []=>.nil
 |_::τ=>.no (rL τ)
theorem S.wide(s:S z g σ As M H)(τ:Sg):S z (g++List.replicate τ.length .no) (σ++τ) As M H:=by
 have q:=s.sl.append (rL (K:=z.K) (M:=M) (H:=H) τ);rw[tP]at q;have hl:=s.sl.length;refine⟨q,s.nd,s.sub,λi b l e1 e2=>?_,s.live,s.keep,s.mQ,s.m0,s.bm,λp hp=>?_,s.tab,s.tm,s.tt⟩
 .
  rcases y8 i g.length with hi |hi
  . rw[dL hi]at e1;rw[dL ⋯]at e2;exact s.own i b l e1 e2
  . rw[eD hi]at e1;have:=mB e1;rw[An]at this;exact absurd this.2 ⋯
 . obtain⟨q1,l,q2⟩:=s.kN p hp;exact⟨by rw[dL (dE.mp q1).1];exact q1,l,by rw[dL (dE.mp q2).1];exact q2⟩
theorem S.narrow{gb:G}{τ:Sg}(s:S z gb (σ++τ) As M H)(hz:∀p∈z.lent,p.1<σ.length):∃A1,S z (gb.take σ.length) σ A1 M H/\∀a∈A1,a∈As:=by
 have hl:=s.sl.length;rw[eQ]at hl;have q:=s.sl;rw[<- AZ σ.length gb]at q;obtain⟨σ1,σ2,A1,A2,h1,h2,h3,h4⟩:=q.split;have l1:=h3.length;rw[rV,Nat.min_eq_left ⋯]at l1;obtain⟨rfl,rfl⟩:=List.append_inj h1 l1;subst h2;have tk:∀(j:Nat) (o:Slot),(gb.take σ.length)[j]?=some o->gb[j]?=some o/\j<σ.length:=λj o e=>by
  have hj:=(dE.mp e).1;rw[rV]at hj;have hj':j<σ.length:=fR hj (Nat.min_le_left _ _);rw[sR hj']at e;exact⟨e,hj'⟩
 refine⟨A1,⟨h3,(u7.mp s.nd).1,λb hb=>s.sub b (t5 _ hb),λj b l c1 c2=>?_,s.live,s.keep,s.mQ,s.m0,s.bm,λp hp=>?_,s.tab,s.tm,s.tt⟩,λa ha=>t5 _ ha⟩
 . obtain⟨c3,c4⟩:=tk j _ c1;exact s.own j b l c3 (by rw[dL c4];exact c2)
 . obtain⟨c1,l,c2⟩:=s.kN p hp;have ug:=hz p hp;rw[dL ug]at c1;exact⟨c1,l,by rw[sR ug];exact c2⟩
end
section
variable{X:Cx}{z:Z}{tg iter kx vx:Expr}{scope:Scope}{pos:Pos}{N':List Str}{k:Nat}{T:Tg}{items:List D}{g g1 gE:G}{ks:List (List Int)}{ds:List D}
def uE(X:Cx)(z:Z)(e:Expr)(g:G)(ns:List Int)(g':G):Prop:=
 ∃t,PE X e t/\∀σ As M H (Q:VK),S z g σ As M H->(∀a H' au M',S z g' σ au M' H'->ao M H M' H'->a∉M'->H' a=some (.tup (ns.map V.int))->Q (.ref a) H')->t σ H Q
theorem Nb{es:List Expr}{rs:List R}{l:List D}{ns:List Int}{x1}{g':G}(h:bW X z es g rs g')(hd:pF rs=some l)(hi:bA l=some ns)(hl:l.length<=16777216):uE X z (.Tuple es x1 pos) g ns g':=by
 obtain⟨t,q,k⟩:=h;refine⟨_,tT q,λσ As M H Q s kk=>k σ As M H _ s λvs H' au M' s' st R=>?_⟩
 have rr:=pG R hd;have e:=bE rr hi;subst e;exact⟨by rw[<- rr.length];exact jG hl,λp hp=>kk p _ au M' (s'.laid hp) (st.trans (ao.laid hp)) (s'.fresh hp) aD⟩
inductive pU(T:Tg)(UJ:G->List Int->G->Prop)(UL:G->D->G->Prop):List D->List (List Int)->List D->G->List (List Int)->List D->G->Prop
 |nil {ks:List (List Int)}{ds:List D}{g:G}:pU T UJ UL [] ks ds g ks ds g
 |cons {d x:D}{rest ds ds':List D}{ks ks':List (List Int)}{ns:List Int}{g g1 g2 g3 g':G}:T.set d g=some g1->UJ g1 ns g2->UL g2 x g3->ns∉ks->ks.length<16777216->pS g3=true->jU x=true->
   pU T UJ UL rest (ks++[ns]) (ds++[x]) g3 ks' ds' g'->pU T UJ UL (d::rest) ks ds g ks' ds' g'
theorem G4{ns:List Int}{ks:List (List Int)}{vs:List V}(h:ns∉ks):ns.map Sum.inl∉(((ks.map (List.map Sum.inl)).zip vs).map (·.1):List (List Key)):=λhm=>by
 obtain⟨p,p1,p2⟩:=lS.mp hm;obtain⟨n,n1,n2⟩:=lS.mp (CL (a:=p.1) (b:=p.2) p1).1;rw[p2]at n2;exact h ((List.map_inj_right λa b e=>Sum.inl.inj e).mp n2▸n1)
theorem rM(ns:List Int):(ns.map (Sum.inl:Int->Key)).map kV=ns.map V.int:=by rw[List.map_map];rfl
theorem uF(hw:fc X z tg iter g items g1)(ht:∀b:Bk,kY (X.blk N' scope b) z tg T)(hT:∀i∈T.ix,g1.length<=i/\i<g1.length+k)
  (hcp:pU T (λg ns g'=>∀bk:Bk,uE (X.blk N' scope bk) z kx g ns g') (λg d g'=>∀bk:Bk,aq (X.blk N' scope bk) z vx g (.dat d) g') items [] [] (gD k g1) ks ds gE) :
  ∃wi,PI X tg iter wi/\∀σ As M H Q,S z g σ As M H->Kn z (gE.take g1.length) σ M H (.dat (.qB ks ds)) Q->pq (.dT []) X k wi (λb=>Mx (X.blk N' scope b) tg) (λ_=>zJ) (λD b=>K9 D (Gw (X.blk N' scope b) kx) (Gw (X.blk N' scope b) vx)) σ H Q:=by
 obtain⟨wi,q,kw⟩:=hw;refine⟨wi,q,λσ As M H Q s kq=>kw σ As M H _ s λJ H1 aR M1 s1 dc hJ D hD=>?_⟩
 have hl:g1.length=σ.length:=s1.sl.length;have hz:∀p∈z.lent,p.1<σ.length:=λp hp=>(dE.mp (s1.kN p hp).1).1
 have Uo:∀i∈T.ix,σ.length<=i:=λi hi=>by rw[<- hl];exact (hT i hi).1
 have h0:z.H0 D=none:=s1.bQ hD;have sb:=(s1.laid (o:=zP [] []) hD).wide (List.replicate k none++[some (V.ref D)]);rw[show (List.replicate k (none:Option V)++[some (V.ref D)]).length=k+1 by simp]at sb
 have pass:∀{M2:List Addr}{H2:Hp}{u:HO},ao M1 H1 M2 H2->ao M1 H1 M2 (upd H2 D u):=λst b o e n=>⟨by rw[az (aG e hD)];exact (st b o e n).1,(st b o e n).2⟩
 refine⟨λi m σ' H'=>i+m=items.length/\∃gb Ab Mb τ ka da vs,S z gb σ' Ab Mb H'/\ao M1 H1 Mb H'/\σ'=σ++τ/\D∉Mb/\H' D=some (zP ka vs)/\ka.length=vs.length/\aC z.K Mb H' da vs/\fj da=true/\
   pU T (λg ns g'=>∀bk:Bk,uE (X.blk N' scope bk) z kx g ns g') (λg d g'=>∀bk:Bk,aq (X.blk N' scope bk) z vx g (.dat d) g') (items.drop i) ka da gb ks ds gE,
  ⟨items.length,by lia,_,_,_,_,[],[],[],sb,ao.laid hD,rfl,s1.fresh hD,aD,rfl,.nil,rfl,hcp⟩,?_⟩
 rintro i m σ' H' ⟨XT,gb,Ab,Mb,τ,ka,da,vs,s2,aM,rfl,hm,hH,UT,rr,Ym,cp⟩;obtain⟨hgo,hstop⟩:=hJ Mb H' aM;cases e:items[i]? with
 |none=>
  have hi:i=items.length:=by have:=AB.mp e;lia
  subst hi;rw[List.drop_length]at cp;cases cp;refine .inl ⟨hstop,?_⟩;obtain⟨A1,s3,n3⟩:=s2.narrow hz;rw[<- hl]at s3;exact kq _ H' A1 Mb s3 (dc.trans aM) (.qB hm hH UT rr)
 |some d=>
  obtain⟨go,yl⟩:=hgo i d e;rw[drop_cons e]at cp;have hi:i<items.length:=(dE.mp e).1;refine .inr ⟨go,λσ' H'=>∃gb Ab Mb τ ka da vs,S z gb σ' Ab Mb H'/\ao M1 H1 Mb H'/\σ'=σ++τ/\D∉Mb/\H' D=some (zP ka vs)/\ka.length=vs.length/\aC z.K Mb H' da vs/\fj da=true/\
   pU T (λg ns g'=>∀bk:Bk,uE (X.blk N' scope bk) z kx g ns g') (λg d g'=>∀bk:Bk,aq (X.blk N' scope bk) z vx g (.dat d) g') (items.drop (i+1)) ka da gb ks ds gE,
   λUh Ui hN=>⟨m - 1,by lia,by lia,hN⟩,λx H2 hx bk _=>?_⟩
  obtain⟨s3,fW,rx⟩:=yl x H2 hx z gb (σ++τ) Ab rfl s2;obtain⟨t,qt,kt⟩:=ht bk;cases cp with
  |cons e0 hk hv hn hz' ng nx rest=>
   refine⟨t,qt,kt d gb _ e0 x _ Ab Mb H2 _ s3 rx λσ4 mR s4 ag=>?_⟩
   dsimp only[zJ];rw[fN rfl];obtain⟨τ',rfl⟩:=gZ ag Uo;obtain⟨t2,q2,k2⟩:=hk bk;obtain⟨t3,q3,k3⟩:=hv bk;refine⟨t2,q2,k2 _ mR Mb H2 _ s4 λa H5 RP M5 s5 wX na ha=>⟨t3,q3,k3 _ RP M5 H5 _ s5 λv H6 Ws M6 s6 Uq R6=>?_⟩⟩
   have WN:=(fW.trans wX).trans Uq;obtain⟨UW,Yn⟩:=WN D _ hH hm;refine⟨_,a,_,rfl,UW,by rw[rM];exact (Uq a _ ha na).1,G4 hn,?_,_,Ws,M6,τ',_,_,vs++[v],s6.Bm UW Yn h0 ng,pass ((aM.trans WN)),rfl,Yn,?_,?_,?_,rK Ym ?_,rest⟩
   . rw[List.length_zip,gL,<- UT,Nat.min_self,oC];exact hz'
   .
    rw[aD];unfold zP;rw[C0,List.zip_append (by rw[gL];exact UT)]
    rfl
   . rw[eQ,eQ,UT];rfl
   . exact aC.append (aC.Bm UW (rr.stay WN) Ym) (.cons (R6.Bm UW nx) .nil)
   . show (jU _&&fj [])=true;rw[nx];rfl
theorem Bo(B:cz X.env.scope scope)(hc:X.calm=true)(hu:X.A.units<cLine)(hN:Names X.N N' scope k)(hw:fc X z tg iter g items g1)(ht:∀b:Bk,kY (X.blk N' scope b) z tg T)(hT:∀i∈T.ix,g1.length<=i/\i<g1.length+k)
  (hcp:pU T (λg ns g'=>∀bk:Bk,uE (X.blk N' scope bk) z kx g ns g') (λg d g'=>∀bk:Bk,aq (X.blk N' scope bk) z vx g (.dat d) g') items [] [] (gD k g1) ks ds gE)
  (hs:∀x,foldedSetIterable iter X.env x=pure x):aq X z (.DictComp kx vx [⟨tg,iter,[],0⟩] scope pos) g (.dat (.qB ks ds)) (gE.take g1.length):=by
 obtain⟨wi,q,kk⟩:=uF hw ht hT hcp;exact⟨_,zO B hc hu hN q (λb=>⟨uo,qT,pK,pK⟩) hs,kk⟩
noncomputable def R9:List (List Int)->List D->List Int->Option D
 |k::ks,d::ds,n=>if k=n then some d else R9 ks ds n
 |_,_,_=>none
theorem rN{K:Frag}{M:List Addr}{H:Hp}{n:List Int}{d:D}:∀{ks:List (List Int)}{ds:List D}{vs:List V},aC K M H ds vs->R9 ks ds n=some d->∃v,atK ((ks.map (List.map Sum.inl)).zip vs) (n.map Sum.inl)=some v/\Rep K M H d v
 | [],_,_,_,h=>by cases h
 |_::_,[],_,_,h=>by cases h
 |k::ks,x::ds,_,r,h=>by
  cases r with
  |cons a b=>
   unfold R9 at h;unfold atK;rw[List.map_cons,AV,List.find?_cons];by_cases e:k=n
   . rw[fN e]at h;cases h;subst e;exact⟨_,by rw[sT (show (k.map Sum.inl,_).1=k.map (Sum.inl:Int->Key)from rfl)];rfl,a⟩
   .
    rw[fI e]at h;obtain⟨v,v1,v2⟩:=rN b h;refine⟨v,?_,v2⟩;rw[show decide ((k.map (Sum.inl:Int->Key),_).1=n.map Sum.inl)=false from qS λq=>e ((List.map_inj_right λa b e=>Sum.inl.inj e).mp q)]
    exact v1
theorem Nc{l:List D}{n:List Int}{d:D}(hK:z.K=X.K)(hu:X.A.units+1<cLine)(hi:bA l=some n)(h:R9 ks ds n=some d):P6 X z (.qB ks ds) (.tup l) (.dat d):=by
 refine⟨_,FH hu,λg σ As M H v1 v2 Q s q1 q2 kk=>?_⟩
 obtain⟨b,ys,rfl,hb,rb⟩:=q2.tup;have e:=bE rb hi;subst e;cases q1 with
 |of q1=>cases q1 with
  |qB na ha hl rr=>obtain⟨v,e1,e2⟩:=rN rr h;exact⟨_,b,_,n.map Sum.inl,v,rfl,rfl,ha,by rw[rM];exact hK▸hb.sq,e1,kk _ H As M s (ao.refl _ _) e2⟩
end
section
variable{X:Cx}{z:Z}{g g1:G}{pos:Pos}
theorem Nf{i j:Int}(h0:0<=j)(h1:j<=1000000)(h2:i.natAbs<2 ^ 64):jj X z (binaryOp .LShift) (.int i) (.int j) (.dat (.int (i * 2 ^ j.toNat))):=by
 refine⟨λx y H Q=>x=.int i/\y=.int j/\Q (.int (i * 2 ^ j.toNat)) H,λah s σ H x y v u Q I r1 r2 h=>?_,λg σ As M H v1 v2 Q s q1 q2 kk=>⟨q1.int,q2.int,kk _ H As M s (ao.refl _ _) (.int _)⟩⟩
 obtain⟨rfl,rfl,q⟩:=h;obtain⟨t,rfl⟩:=r1;obtain⟨t',rfl⟩:=r2;exact lshift_int_small h0 h1 h2 ⟨.int _,H,I.tok _,⟨_,rfl⟩,q⟩
end
end Ev
namespace Sb
open PySem
def Bp(xs:Array Nat):Prop:=∀i k,i<k->k<xs.size->xs.getD i 0<xs.getD k 0
theorem getD_in{xs:Array Nat}{i d:Nat}(h:i<xs.size):xs.getD i d=xs.getD i 0:=by simp[Array.getD,h]
theorem lC{xs:Array Nat}(hr:Bp xs)(j:Nat):∀f lo hi,lo<=hi->hi<=xs.size->hi - lo<=f->(∀i,i<lo->xs.getD i 0<j)->(∀i,hi<=i->i<xs.size->j<=xs.getD i 0)->
  SetTable.below.go xs j f lo hi<=xs.size/\(∀i,i<SetTable.below.go xs j f lo hi->xs.getD i 0<j)/\(∀i,SetTable.below.go xs j f lo hi<=i->i<xs.size->j<=xs.getD i 0)
 | 0,lo,hi,h1,h2,h3,h4,h5=>by
  obtain rfl:lo=hi:=by lia
  exact⟨h2,h4,h5⟩
 |f+1,lo,hi,h1,h2,h3,h4,h5=>by
  unfold SetTable.below.go;by_cases iZ:lo<hi
  .
   rw[fN iZ];have hm1:lo<=(lo+hi) / 2:=by lia
   have hm2:(lo+hi) / 2<hi:=by lia
   dsimp only;rw[getD_in (show (lo+hi) / 2<xs.size by lia)]
   by_cases hc:xs.getD ((lo+hi) / 2) 0<j
   .
    rw[fN hc];refine lC hr j f _ _ ⋯ h2 ⋯ (λi hi'=>?_) h5
    by_cases e:i=(lo+hi) / 2
    . rw[e];exact hc
    . exact Nat.lt_trans (hr i ((lo+hi) / 2) ⋯ ⋯) hc
   .
    rw[fI hc];refine lC hr j f _ _ hm1 ⋯ ⋯ h4 λi hi1 hi2=>?_
    by_cases e:i=(lo+hi) / 2
    . rw[e];lia
    . have:=hr ((lo+hi) / 2) i ⋯ hi2;lia
  .
   rw[fI iZ];obtain rfl:lo=hi:=by lia
   exact⟨h2,h4,h5⟩
theorem iO{xs:Array Nat}(hr:Bp xs)(j:Nat):SetTable.below xs j<=xs.size/\(∀i,i<SetTable.below xs j->xs.getD i 0<j)/\(∀i,SetTable.below xs j<=i->i<xs.size->j<=xs.getD i 0):=
 lC hr j xs.size 0 xs.size (nV _) (eA _) ⋯ (λi h=>absurd h (l7 i)) λi h1 h2=>absurd h2 ⋯
theorem n5{t:SetTable}(hr:Bp t.place){i:Nat}(hi:i<t.place.size):t.slot (t.place.getD i 0)=.live i:=by
 obtain⟨h1,h2,h3⟩:=iO hr (t.place.getD i 0);have e:SetTable.below t.place (t.place.getD i 0)=i:=by
  rcases AI (SetTable.below t.place (t.place.getD i 0)) i with h |h |h
  . have a:=h3 _ (eA _) (Nat.lt_trans h hi);have b:=hr _ _ h hi;lia
  . exact h
  . have:=h2 i h;lia
 unfold SetTable.slot;dsimp only;rw[e];have:t.place[i]?=some (t.place.getD i 0):=by simp[Array.getD,hi]
 rw[this];simp
theorem lD{t:SetTable}(hr:Bp t.place)(hd:t.dummies = #[]){j:Nat}(h:∀i,i<t.place.size->t.place.getD i 0≠j):t.slot j=.empty:=by
 unfold SetTable.slot;dsimp only;have h1:(t.place[SetTable.below t.place j]?==some j)=false:=by
  cases e:t.place[SetTable.below t.place j]? with
  |none=>rfl
  |some x=>
   obtain⟨hl,e⟩:=yY.mp e;have:=h _ hl;have e2:t.place.getD (SetTable.below t.place j) 0=x:=by simp[Array.getD,hl,e]
   rw[e2]at this;simpa using this
 have h2:SetTable.has t.dummies j=false:=by unfold SetTable.has;rw[hd];rfl
 rw[h1,h2];rfl
end Sb
namespace Sb
open PySem
noncomputable def way(t:SetTable)(h:Int):Nat->SetTable.Probe
 | 0=>t.probeStart h
 |k+1=>t.advance (way t h k)
theorem x8(t:SetTable)(p:SetTable.Probe):(t.advance p).dummy=p.dummy:=by
 unfold SetTable.advance;split
 . rfl
 . rfl
theorem n6(t:SetTable)(h:Int):∀k,(way t h k).dummy=none
 | 0=>rfl
 |k+1=>(x8 t _).trans (n6 t h k)
def pW(t:SetTable)(j:Nat):Prop:=∃i,t.slot j=.live i
theorem JC(t:SetTable)(hs:Nat->Int)(h:Int):∀(N k f:Nat),(∀m,m<N->pW t (way t h (k+m)).j)->t.slot (way t h (k+N)).j=.empty->N<f->
  (∃m i,m<N/\t.slot (way t h (k+m)).j=.live i/\hs i=h/\(∀m',m'<m->∀i',t.slot (way t h (k+m')).j=.live i'->hs i'≠h)/\SetTable.probe.go t hs h f (way t h k)=some (.candidate (way t h (k+m)).j i (way t h (k+m+1))))\/
  ((∀m,m<N->∀i,t.slot (way t h (k+m)).j=.live i->hs i≠h)/\SetTable.probe.go t hs h f (way t h k)=some (.empty (way t h (k+N)).j none))
 | 0,k,f+1,_,he,_=>by
  right;refine⟨λm hm=>absurd hm (l7 m),?_⟩
  unfold SetTable.probe.go;rw[B7]at he ⊢
  rw[he];dsimp only;rw[n6]
 |N+1,k,f+1,hl,he,hf=>by
  obtain⟨i,hi⟩:=hl 0 (AK N);rw[B7]at hi;have rest:=JC t hs h N (k+1) f (λm hm=>by
   have:=hl (m+1) ⋯
   rwa [show k+(m+1)=k+1+m by lia]at this) (by rwa [show k+1+N=k+(N+1)by lia]) ⋯
  by_cases e:hs i=h
  .
   left;refine⟨0,i,AK N,by rw[B7];exact hi,e,λm' hm'=>absurd hm' (l7 m'),?_⟩
   unfold SetTable.probe.go;rw[hi];dsimp only;rw[fN (by rw[e];exact t6 h)]
   rfl
  .
   have st:SetTable.probe.go t hs h (f+1) (way t h k)=SetTable.probe.go t hs h f (way t h (k+1)):=by
    conv=>lhs;unfold SetTable.probe.go
    rw[hi];dsimp only;rw[fI (by simpa using e)]
    rfl
   rcases rest with ⟨m,i2,h1,h2,h3,h4,h5⟩ |⟨h1,h2⟩
   .
    left;refine⟨m+1,i2,by lia,by rw[show k+(m+1)=k+1+m by lia];exact h2,h3,λm' hm' i' hi'=>?_,?_⟩
    .
     cases m' with
     |zero=>rw[B7,hi]at hi';cases hi';exact e
     |succ m'=>exact h4 m' ⋯ i' (by rw[show k+1+m'=k+(m'+1)by lia];exact hi')
    . rw[st,h5,show k+(m+1)=k+1+m by lia]
   .
    right;refine⟨λm hm i' hi'=>?_,?_⟩
    .
     cases m with
     |zero=>rw[B7,hi]at hi';cases hi';exact e
     |succ m=>exact h1 m ⋯ i' (by rw[show k+1+m=k+(m+1)by lia];exact hi')
    . rw[st,h2,show k+1+N=k+(N+1)by lia]
structure Tab(t:SetTable)(hs:Nat->Int)(n:Nat):Prop where
 sz:t.place.size=n
 uG:Bp t.place
 yU:t.dummies = #[]
 on:∀i,i<n->∃k,(way t (hs i) k).j=t.place.getD i 0/\∀m,m<k->pW t (way t (hs i) m).j
theorem Tab.ahead{t:SetTable}{hs:Nat->Int}{n:Nat}(T:Tab t hs n){h:Int}{N:Nat}(hl:∀m,m<N->pW t (way t h m).j)(he:t.slot (way t h N).j=.empty){i:Nat}(hi:i<n)(e:hs i=h):∃m,m<N/\t.slot (way t h m).j=.live i:=by
 obtain⟨k,h1,h2⟩:=T.on i hi;rw[e]at h1 h2;have hs':t.slot (way t h k).j=.live i:=by rw[h1];exact n5 T.uG (by rw[T.sz];exact hi)
 refine⟨k,?_,hs'⟩;rcases AI k N with q |q |q
 . exact q
 . rw[q,he]at hs';cases hs'
 . obtain⟨i',hi'⟩:=h2 N q;rw[he]at hi';cases hi'
end Sb
namespace Sb
open PySem
noncomputable def aL(mask:Nat)(h:Int):Nat->Nat×Nat
 | 0=>(SetTable.bits h % (mask+1),SetTable.bits h)
 |s+1=>SetTable.leap mask (aL mask h s).1 (aL mask h s).2
noncomputable def Bq(mask:Nat)(q:Nat×Nat):SetTable.Probe:={ j:=q.1,more:=SetTable.runEnd mask q.1 - q.1,i:=q.1,perturb:=q.2,dummy:=none}
theorem n8(mask i:Nat):SetTable.runEnd mask i - i<=9:=by unfold SetTable.runEnd;split <;> lia
theorem pX(t:SetTable)(h:Int){K:Nat}{q:Nat×Nat}(e:way t h K=Bq t.mask q):∀d,d<=SetTable.runEnd t.mask q.1 - q.1->way t h (K+d)={ j:=q.1+d,more:=SetTable.runEnd t.mask q.1 - q.1 - d,i:=q.1,perturb:=q.2,dummy:=none}
 | 0,_=>e
 |d+1,hd=>by
  have ih:=pX t h e d ⋯;show t.advance (way t h (K+d))=_;rw[ih];unfold SetTable.advance;dsimp only;rw[fN ⋯]
  congr 1
theorem rO(t:SetTable)(h:Int):∀s,∃K,K<=10 * s/\way t h K=Bq t.mask (aL t.mask h s)
 | 0=>⟨0,eA _,rfl⟩
 |s+1=>by
  obtain⟨K,h1,h2⟩:=rO t h s;have hr:=n8 t.mask (aL t.mask h s).1;refine⟨K+(SetTable.runEnd t.mask (aL t.mask h s).1 - (aL t.mask h s).1)+1,by lia,?_⟩
  show t.advance (way t h (K+_))=_;rw[pX t h h2 _ (eA _)];unfold SetTable.advance;dsimp only;rw[fI ⋯];rfl
theorem G5(h:Int):SetTable.bits h<2 ^ 64:=by unfold SetTable.bits;have:h % 2 ^ 64<2 ^ 64:=AW h ⋯;lia
theorem lE(mask:Nat)(h:Int):∀s,(aL mask h s).2=SetTable.bits h / 32 ^ s
 | 0=>by rw[Nat.pow_zero,Nat.div_one];rfl
 |s+1=>by
  show (aL mask h s).2 / 32=_;rw[lE mask h s,Nat.div_div_eq_div_mul,Nat.pow_succ]
theorem uH(mask:Nat)(h:Int)(s:Nat)(hs:13<=s):(aL mask h s).2=0:=by rw[lE];refine Nat.div_eq_of_lt (fR (G5 h) ?_);exact l5 ⋯ (Nat.pow_le_pow_right (show 0<32 by decide) hs)
def stp(mask x:Nat):Nat:=(x * 5+1) % (mask+1)
noncomputable def its(mask:Nat):Nat->Nat->Nat
 | 0,x=>x
 |r+1,x=>stp mask (its mask r x)
theorem ju(mask:Nat)(h:Int):∀r,(aL mask h (13+r)).1=its mask r (aL mask h 13).1
 | 0=>rfl
 |r+1=>by
  show ((aL mask h (13+r)).1 * 5+1+(aL mask h (13+r)).2 / 32) % (mask+1)=_;rw[uH mask h (13+r) ⋯,ju mask h r];rfl
noncomputable def Br(mask:Nat):Nat->Nat->Nat->Nat
 | 0,_,acc=>acc
 |f+1,x,acc=>Br mask f (stp mask x) (acc ||| (1 <<< x))
def g8(mask:Nat):Bool:=Br mask (mask+1) 0 0==2 ^ (mask+1) - 1&&its mask (mask+1) 0==0
theorem iP(mask:Nat)(x:Nat):∀a b,its mask (a+b) x=its mask a (its mask b x)
 | 0,b=>by rw[BA];rfl
 |a+1,b=>by
  rw[show a+1+b=(a+b)+1 by lia]
  show stp mask (its mask (a+b) x)=_;rw[iP mask x a b];rfl
theorem G6(mask x:Nat)(r:Nat):its mask r (stp mask x)=its mask (r+1) x:=by rw[iP mask x r 1];rfl
theorem rP(mask:Nat)(e:Nat):∀f x acc,(Br mask f x acc).testBit e=true->acc.testBit e=true\/∃r,r<f/\its mask r x=e
 | 0,x,acc,h=>.inl h
 |f+1,x,acc,h=>by
  unfold Br at h;rcases rP mask e f (stp mask x) _ h with q |⟨r,h1,h2⟩
  .
   rw[Nat.testBit_or,x5]at q;rcases q with q |q
   . exact .inl q
   . right;refine⟨0,AK f,?_⟩;rw[Nat.testBit_shiftLeft]at q;simp only[eJ,i5]at q;show x=e;have:=q.2;rw[Nat.testBit_one_eq_true_iff_self_eq_zero]at this;have:=q.1;lia
  . exact .inr ⟨r+1,by lia,by rw[<- G6];exact h2⟩
theorem Bs{mask:Nat}(hc:g8 mask=true){i e:Nat}(hi:i<=mask)(he:e<=mask):∃r,r<=mask/\its mask r i=e:=by
 unfold g8 at hc;rw[eJ,beq_iff_eq,beq_iff_eq]at hc;obtain⟨h1,h2⟩:=hc;have all:∀e,e<=mask->∃r,r<mask+1/\its mask r 0=e:=λe he=>by
  have hb:(Br mask (mask+1) 0 0).testBit e=true:=by rw[h1,Nat.testBit_two_pow_sub_one];exact sT ⋯
  rcases rP mask e _ _ _ hb with q |q
  . rw[Nat.zero_testBit]at q;cases q
  . exact q
 obtain⟨a,ha,ea⟩:=all i hi;obtain⟨b,hb,eb⟩:=all e he;by_cases hab:a<=b
 .
  refine⟨b - a,by lia,?_⟩
  rw[<- ea,<- iP,show b - a+a=b by lia,eb]
 .
  refine⟨mask+1 - a+b,by lia,?_⟩
  rw[<- ea,<- iP,show mask+1 - a+b+a=b+(mask+1)by lia,iP,h2,eb]
theorem rQ(mask:Nat)(h:Int):∀s,(aL mask h s).1<=mask
 | 0=>B3 (Nat.mod_lt _ (AK mask))
 |s+1=>B3 (Nat.mod_lt _ (AK mask))
theorem G7{t:SetTable}(hc:g8 t.mask=true)(h:Int){e:Nat}(he:e<=t.mask):∃K,K<10 * SetTable.turns t.mask/\(way t h K).j=e:=by
 obtain⟨r,h1,h2⟩:=Bs hc (rQ t.mask h 13) he;obtain⟨K,h3,h4⟩:=rO t h (13+r);refine⟨K,?_,?_⟩
 . unfold SetTable.turns;lia
 . rw[h4];show (aL t.mask h (13+r)).1=e;rw[ju,h2]
theorem WQ:g8 7=true:=by decide +kernel
theorem Se:g8 31=true:=by decide +kernel
theorem Ng:g8 127=true:=by decide +kernel
theorem Nh:g8 511=true:=by decide +kernel
theorem G8:g8 2047=true:=by decide +kernel
end Sb
namespace Sb
open PySem
theorem lF{t t':SetTable}(e:t'.mask=t.mask)(h:Int):∀k,way t' h k=way t h k
 | 0=>by
  show t'.probeStart h=t.probeStart h;unfold SetTable.probeStart;rw[e]
 |k+1=>by
  show t'.advance (way t' h k)=t.advance (way t h k);rw[lF e h k];unfold SetTable.advance;rw[e]
theorem fJ{t:SetTable}(hr:Bp t.place)(hd:t.dummies = #[])(j:Nat):(pW t j ↔ ∃i,i<t.place.size/\t.place.getD i 0=j)/\(t.slot j=.empty ↔ ¬ ∃i,i<t.place.size/\t.place.getD i 0=j):=by
 by_cases h:∃i,i<t.place.size/\t.place.getD i 0=j
 . obtain⟨i,hi,e⟩:=h;have hl:=n5 hr hi;rw[e]at hl;exact⟨⟨λ_=>⟨i,hi,e⟩,λ_=>⟨i,hl⟩⟩,⟨λz=>(by rw[hl]at z;cases z),λz=>absurd ⟨i,hi,e⟩ z⟩⟩
 .
  have he:=lD hr hd (j:=j) λi hi e=>h ⟨i,hi,e⟩
  exact⟨⟨λ⟨i,z⟩=>(by rw[he]at z;cases z),λz=>absurd z h⟩,⟨λ_=>h,λ_=>he⟩⟩
theorem Bt{xs:Array Nat}(hr:Bp xs):∀i,i<xs.size->i<=xs.getD i 0
 | 0,_=>nV _
 |i+1,h=>by
  have:=Bt hr i ⋯;have:=hr i (i+1) (wE i) h;lia
theorem x9{xs:Array Nat}(hr:Bp xs):∃e,e<=xs.size/\∀i,i<xs.size->xs.getD i 0≠e:=by
 have:∀d,d<=xs.size->(∃e,e<=d/\∀i,i<xs.size->xs.getD i 0≠e)\/(∀i,i<d->xs.getD i 0=i):=λd=>by
  induction d with
  |zero=>intro _;exact .inr λi hi=>absurd hi (l7 i)
  |succ d ih=>
   intro hd;rcases ih ⋯with ⟨e,h1,h2⟩ |h
   . exact .inl ⟨e,by lia,h2⟩
   .
    by_cases e:xs.getD d 0=d
    .
     exact .inr λi hi=>by
      by_cases ei:i=d
      . rw[ei];exact e
      . exact h i ⋯
    .
     left;refine⟨d,by lia,λi hi z=>?_⟩
     have hg:=Bt hr d ⋯;rcases AI i d with q |q |q
     . rw[h i q]at z;lia
     . rw[q]at z;exact e z
     . have:=hr d i q hi;lia
 rcases this xs.size (eA _)with q |h
 . exact q
 . exact⟨xs.size,eA _,λi hi z=>by rw[h i hi]at z;lia⟩
theorem least(p:Nat->Prop) [DecidablePred p]:∀K,p K->∃N,N<=K/\p N/\∀m,m<N->¬ p m
 | 0,h=>⟨0,eA _,h,λm hm=>absurd hm (l7 m)⟩
 |K+1,h=>by
  by_cases e:∃m,m<=K/\p m
  .
   obtain⟨m,h1,h2⟩:=e;have:∀d m,m<=d->p m->∃N,N<=m/\p N/\∀q,q<N->¬ p q:=λd=>by
    induction d with
    |zero=>intro m hm hp;exact⟨m,eA _,hp,λq hq=>absurd hq ⋯⟩
    |succ d ih=>
     intro m hm hp;by_cases e:∃q,q<m/\p q
     . obtain⟨q,h1,h2⟩:=e;obtain⟨N,a,b,c⟩:=ih q ⋯ h2;exact⟨N,by lia,b,c⟩
     . exact⟨m,eA _,hp,λq hq z=>e ⟨q,hq,z⟩⟩
   obtain⟨N,a,b,c⟩:=this m m (eA _) h2;exact⟨N,by lia,b,c⟩
  . exact⟨K+1,eA _,h,λm hm z=>e ⟨m,by lia,z⟩⟩
theorem rR{t:SetTable}{hs:Nat->Int}{n:Nat}(T:Tab t hs n)(hc:g8 t.mask=true)(hn:n<=t.mask)(h:Int):∃N,N<10 * SetTable.turns t.mask/\t.slot (way t h N).j=.empty/\∀m,m<N->pW t (way t h m).j:=by
 obtain⟨e,h1,h2⟩:=x9 T.uG;obtain⟨K,h3,h4⟩:=G7 hc h (e:=e) (by rw[T.sz]at h1;lia)
 have h5:t.slot (way t h K).j=.empty:=by rw[h4];exact lD T.uG T.yU h2
 obtain⟨N,a,b,c⟩:=least (λk=>t.slot (way t h k).j=.empty) K h5
 refine⟨N,by lia,b,λm hm=>?_⟩
 have:=c m hm;obtain⟨l1,l2⟩:=fJ T.uG T.yU (way t h m).j;exact l1.mpr (AC λz=>this (l2.mpr z))
theorem getD_list(ys:Array Nat)(k:Nat):ys.getD k 0=ys.toList.getD k 0:=by
 by_cases h:k<ys.size
 . simp[Array.getD,hU,h]
 . simp[Array.getD,hU,h]
theorem cF{xs:Array Nat}{p x:Nat}(hp:p<=xs.size)(i:Nat):(SetTable.insertAt xs p x).getD i 0=if i<p then xs.getD i 0 else if i=p then x else xs.getD (i - 1) 0:=by
 have hl:(xs.toList.take p).length=p:=by rw[rV,h9];lia
 rw[getD_list,SetTable.toList_insertAt,hU];by_cases h1:i<p
 . rw[fN h1,dL ⋯,List.getElem?_take,fN h1,getD_list,hU]
 .
  rw[fI h1,eD ⋯,hl];by_cases h2:i=p
  . rw[fN h2,h2,Nat.sub_self];rfl
  . rw[fI h2,show i - p=(i - p - 1)+1 by lia,List.getElem?_cons_succ,List.getElem?_drop,show p+(i - p - 1)=i - 1 by lia,getD_list,hU]
theorem fK(xs:Array Nat)(p x:Nat):(SetTable.insertAt xs p x).size=xs.size+1:=by have:=(SetTable.insertAt_perm xs p x).length_eq;rw[h9,h9,Array.size_push]at this;exact this
noncomputable def G9(hs:Nat->Int)(p:Nat)(h:Int)(i:Nat):Int:=if i<p then hs i else if i=p then h else hs (i - 1)
theorem Bu(t:SetTable)(hd:t.dummies = #[])(j:Nat):t.put j=({ t with place:=SetTable.insertAt t.place (SetTable.below t.place j) j},SetTable.below t.place j):=by
 unfold SetTable.put;have:SetTable.has t.dummies j=false:=by unfold SetTable.has;rw[hd];rfl
 dsimp only;rw[this];rfl
theorem Tab.put{t:SetTable}{hs:Nat->Int}{n:Nat}(T:Tab t hs n){h:Int}{N:Nat}(hl:∀m,m<N->pW t (way t h m).j)(he:t.slot (way t h N).j=.empty):Tab (t.put (way t h N).j).1 (G9 hs (t.put (way t h N).j).2 h) (n+1):=by
 generalize hj:(way t h N).j=j at he;rw[Bu t T.yU j];obtain⟨b1,b2,b3⟩:=iO T.uG j;have gG:=(fJ T.uG T.yU j).2.mp he;dsimp only;have tK:(SetTable.insertAt t.place (SetTable.below t.place j) j).size=n+1:=by rw[fK,T.sz]
 have Yo:∀i,SetTable.below t.place j<=i->i<t.place.size->j<t.place.getD i 0:=λi h1 h2=>by
  have:=b3 i h1 h2;have:t.place.getD i 0≠j:=λz=>gG ⟨i,h2,z⟩
  lia
 have Bv:Bp (SetTable.insertAt t.place (SetTable.below t.place j) j):=λa c hac hc=>by
  rw[cF b1,cF b1];rw[fK]at hc;by_cases h1:c<SetTable.below t.place j
  . rw[fN h1,fN ⋯];exact T.uG a c hac ⋯
  .
   rw[fI h1];by_cases h2:c=SetTable.below t.place j
   . rw[fN h2,fN ⋯];exact b2 a ⋯
   .
    rw[fI h2];by_cases h3:a<SetTable.below t.place j
    . rw[fN h3];exact Nat.lt_trans (b2 a h3) (Yo (c - 1) ⋯ ⋯)
    .
     rw[fI h3];by_cases h4:a=SetTable.below t.place j
     . rw[fN h4];exact Yo (c - 1) ⋯ ⋯
     . rw[fI h4];exact T.uG (a - 1) (c - 1) ⋯ ⋯
 have mem:∀x,(∃i,i<t.place.size/\t.place.getD i 0=x)\/x=j->∃i,i<(SetTable.insertAt t.place (SetTable.below t.place j) j).size/\(SetTable.insertAt t.place (SetTable.below t.place j) j).getD i 0=x:=λx hx=>by
  rcases hx with ⟨i,hi,e⟩ |e
  .
   by_cases h1:i<SetTable.below t.place j
   . exact⟨i,by rw[fK];lia,by rw[cF b1,fN h1];exact e⟩
   . exact⟨i+1,by rw[fK];lia,by rw[cF b1,fI ⋯,fI ⋯,Nat.add_sub_cancel];exact e⟩
  . exact⟨SetTable.below t.place j,by rw[fK];lia,by rw[cF b1,fI ⋯,fN rfl];exact e.symm⟩
 have live:∀x,pW t x\/x=j->pW { t with place:=SetTable.insertAt t.place (SetTable.below t.place j) j} x:=λx hx=>by
  refine (fJ (t:={ t with place:=SetTable.insertAt t.place (SetTable.below t.place j) j}) Bv T.yU x).1.mpr (mem x ?_);exact hx.imp (λz=>(fJ T.uG T.yU x).1.mp z) id
 have wm:=λh k=>lF (t:=t) (t':={ t with place:=SetTable.insertAt t.place (SetTable.below t.place j) j}) rfl h k
 refine⟨tK,Bv,T.yU,λi hi=>?_⟩
 unfold G9;by_cases h1:i<SetTable.below t.place j
 .
  rw[fN h1];obtain⟨k,k1,k2⟩:=T.on i (by have:=T.sz;lia)
  refine⟨k,?_,λm hm=>?_⟩
  . rw[wm,k1];show _=(SetTable.insertAt t.place (SetTable.below t.place j) j).getD i 0;rw[cF b1,fN h1]
  . rw[wm];exact live _ (.inl (k2 m hm))
 .
  rw[fI h1];by_cases h2:i=SetTable.below t.place j
  .
   rw[fN h2];refine⟨N,?_,λm hm=>?_⟩
   . rw[wm,hj];show _=(SetTable.insertAt t.place (SetTable.below t.place j) j).getD i 0;rw[cF b1,fI h1,fN h2]
   . rw[wm];exact live _ (.inl (hl m hm))
  .
   rw[fI h2];obtain⟨k,k1,k2⟩:=T.on (i - 1) ⋯;refine⟨k,?_,λm hm=>?_⟩
   . rw[wm,k1];show _=(SetTable.insertAt t.place (SetTable.below t.place j) j).getD i 0;rw[cF b1,fI h1,fI h2]
   . rw[wm];exact live _ (.inl (k2 m hm))
end Sb
namespace Sb
open PySem
noncomputable def bare(mask:Nat):SetTable:={ mask,place:=#[],dummies:=#[],finger:=0,led:=true,moves:=0,plain:=true}
def uI(owner:Array (Option Nat))(j:Nat):Prop:=owner.getD j (some 0)=none
theorem vX{mask:Nat}{h:Int}{owner:Array (Option Nat)}:∀(f s K:Nat),way (bare mask) h K=Bq mask (aL mask h s)->(∀m,m<K->¬ uI owner (way (bare mask) h m).j)->(∃s',s<=s'/\s'<s+f/\uI owner (aL mask h s').1)->
  ∃N,SetTable.layClean.free mask owner f (aL mask h s).1 (aL mask h s).2=some (way (bare mask) h N).j/\uI owner (way (bare mask) h N).j/\∀m,m<N->¬ uI owner (way (bare mask) h m).j
 | 0,s,K,_,_,hx=>by
  obtain⟨s',h1,h2,_⟩:=hx;lia
 |f+1,s,K,hK,hb,hx=>by
  have run:=pX (bare mask) h hK;unfold SetTable.layClean.free;cases e:(List.range (SetTable.runEnd mask (aL mask h s).1+1 - (aL mask h s).1)).find? (λk=>(owner.getD ((aL mask h s).1+k) (some 0)).isNone)with
  |some d=>
   obtain⟨hd,hm,WR⟩:=List.find?_range_eq_some.mp e;rw[pV]at hm;have r:=run d (by have:(bare mask).mask=mask:=rfl;lia)
   refine⟨K+d,?_,?_,λm hm'=>?_⟩
   . rw[r]
   . rw[r];show owner.getD ((aL mask h s).1+d) (some 0)=none;simpa using hd
   .
    by_cases h1:m<K
    . exact hb m h1
    .
     have:=run (m - K) (by have:(bare mask).mask=mask:=rfl;lia)
     rw[show K+(m - K)=m by lia]at this
     rw[this];intro z;have q:=WR (m - K) ⋯;have z':owner.getD ((aL mask h s).1+(m - K)) (some 0)=none:=z;rw[z']at q;cases q
  |none=>
   have hn:=List.find?_range_eq_none.mp e;have hr:=n8 mask (aL mask h s).1;have hre:(aL mask h s).1<=SetTable.runEnd mask (aL mask h s).1:=by unfold SetTable.runEnd;split <;> lia
   have nf:∀d,d<=SetTable.runEnd mask (aL mask h s).1 - (aL mask h s).1->¬ uI owner ((aL mask h s).1+d):=λd hd z=>by
    have q:=hn d ⋯;have z':owner.getD ((aL mask h s).1+d) (some 0)=none:=z;rw[z']at q;cases q
   show ∃N,SetTable.layClean.free mask owner f (aL mask h (s+1)).1 (aL mask h (s+1)).2=_/\_;refine vX f (s+1) (K+(SetTable.runEnd mask (aL mask h s).1 - (aL mask h s).1)+1) ?_ (λm hm=>?_) ?_
   . show (bare mask).advance (way (bare mask) h (K+_))=_;have r:=run _ (eA _);have hm:(bare mask).mask=mask:=rfl;rw[hm]at r;rw[r];unfold SetTable.advance;dsimp only;rw[fI ⋯];rfl
   .
    by_cases h1:m<K
    . exact hb m h1
    .
     have:=run (m - K) (by have:(bare mask).mask=mask:=rfl;rw[this];lia)
     rw[show K+(m - K)=m by lia]at this
     rw[this];exact nf (m - K) ⋯
   .
    obtain⟨s',h1,h2,h3⟩:=hx;refine⟨s',?_,by lia,h3⟩
    by_cases e2:s'=s
    . rw[e2]at h3;exact absurd h3 (nf 0 (nV _))
    . lia
theorem uJ(t:SetTable)(h:Int):∀k,(way t h k).j<=t.mask/\(way t h k).j+(way t h k).more<=t.mask
 | 0=>by
  have h1:SetTable.bits h % (t.mask+1)<=t.mask:=B3 (Nat.mod_lt _ (AK _));refine⟨h1,?_⟩;show SetTable.bits h % (t.mask+1)+(SetTable.runEnd t.mask (SetTable.bits h % (t.mask+1)) - SetTable.bits h % (t.mask+1))<=t.mask;unfold SetTable.runEnd;split <;> lia
 |k+1=>by
  obtain⟨h1,h2⟩:=uJ t h k;show (t.advance (way t h k)).j<=t.mask/\(t.advance (way t h k)).j+(t.advance (way t h k)).more<=t.mask;unfold SetTable.advance;by_cases hm:(way t h k).more > 0
  . rw[fN hm];dsimp only;lia
  .
   rw[fI hm];have h3:(SetTable.leap t.mask (way t h k).i (way t h k).perturb).1<=t.mask:=B3 (Nat.mod_lt _ (AK _));generalize SetTable.leap t.mask (way t h k).i (way t h k).perturb=q at h3;obtain⟨q1,q2⟩:=q;dsimp only at h3 ⊢
   refine⟨h3,?_⟩;unfold SetTable.runEnd;split <;> lia
structure Lay(mask:Nat)(hs:List Int)(owner:Array (Option Nat))(js:List Nat):Prop where
 sz:owner.size=mask+1
 len:js.length=hs.length
 nd:js.Nodup
 le:∀j∈js,j<=mask
 own:∀j k,j<=mask->(owner.getD j none=some k ↔ js[k]?=some j)
 on:∀(k:Nat) (h:Int),hs[k]?=some h->∃N,js[k]?=some (way (bare mask) h N).j/\∀m,m<N->(way (bare mask) h m).j∈js
theorem uK{owner:Array (Option Nat)}{j:Nat}(h:j<owner.size)(d:Option Nat):owner.getD j d=owner.getD j none:=by simp[Array.getD,h]
theorem Lay.free{mask:Nat}{hs:List Int}{owner:Array (Option Nat)}{js:List Nat}(L:Lay mask hs owner js){j:Nat}(hj:j<=mask):uI owner j ↔ j∉js:=by
 unfold uI;rw[uK (by rw[L.sz];lia)]
 constructor
 .
  intro e hm;obtain⟨k,hk,e2⟩:=yA hm;have:=(L.own j k hj).mpr (by rw[eM hk,e2])
  rw[e]at this;cases this
 .
  intro hm;cases e:owner.getD j none with
  |none=>rfl
  |some k=>have:=(L.own j k hj).mp e;exact absurd (mB this) hm
theorem Lay.start(mask:Nat):Lay mask [] (Array.replicate (mask+1) none) []:=by
 refine⟨by simp,rfl,wT,λj h=>(nomatch h),λj k hj=>?_,λk h e=>(by cases e)⟩
 have:(Array.replicate (mask+1) (none:Option Nat)).getD j none=none:=by
  have:j<(Array.replicate (mask+1) (none:Option Nat)).size:=by simp;lia
  simp[Array.getD,this]
 rw[this];constructor
 . intro z;cases z
 . intro z;cases z
theorem Lay.step{mask:Nat}(hc:g8 mask=true){hs:List Int}{owner:Array (Option Nat)}{js:List Nat}(L:Lay mask hs owner js)(hn:hs.length<=mask)(h:Int):∃j,SetTable.layClean.free mask owner (SetTable.turns mask) (SetTable.bits h % (mask+1)) (SetTable.bits h)=some j/\Lay mask (hs++[h]) (owner.setIfInBounds j (some hs.length)) (js++[j]):=by
 obtain⟨e,he,hfree⟩:∃e,e<=mask/\e∉js:=by
  refine AC λz=>?_
  have hall:∀e∈List.range (mask+1),e∈js:=λe he=>AC λq=>z ⟨e,by have:=pV.mp he;lia,q⟩
  have:=List.nodup_range.length_le_of_subset hall;rw[B2,L.len]at this;lia
 obtain⟨r,h1,h2⟩:=Bs hc (rQ mask h 13) he;obtain⟨N,f1,f2,f3⟩:=vX (mask:=mask) (h:=h) (owner:=owner) (SetTable.turns mask) 0 0 rfl (λm hm=>absurd hm (l7 m)) ⟨13+r,nV _,by unfold SetTable.turns;lia,by
  rw[ju,h2];exact (L.free he).mpr hfree⟩
 have hj:=(uJ (bare mask) h N).1;have hj':(way (bare mask) h N).j<=mask:=hj;have hnew:(way (bare mask) h N).j∉js:=(L.free hj').mp f2;refine⟨(way (bare mask) h N).j,f1,by simpa using L.sz,by rw[eQ,eQ,L.len];rfl,?_,λx hx=>?_,λx k hx=>?_,λk h' e'=>?_⟩
 . rw[u7];exact⟨L.nd,by simp,λa ha b hb=>by rw[gN.mp hb];exact λz=>hnew (z▸ha)⟩
 .
  rcases xL.mp hx with q |q
  . exact L.le x q
  . rw[gN.mp q];exact hj'
 .
  have hxs:x<owner.size:=by rw[L.sz];lia
  have Yp:(way (bare mask) h N).j<owner.size:=by rw[L.sz];lia
  generalize (way (bare mask) h N).j=j at hnew hj' Yp;have ge:(owner.setIfInBounds j (some hs.length)).getD x none=if j=x then some hs.length else owner.getD x none:=by
   rw[oT,oT,Array.getElem?_setIfInBounds];by_cases e:j=x
   . rw[fN e,fN e,fN Yp];rfl
   . rw[fI e,fI e]
  rw[ge];by_cases e:j=x
  .
   rw[fN e,<- e];constructor
   .
    intro q;cases q;rw[eD (by rw[L.len];exact eA _),L.len]
    simp
   .
    intro q;by_cases hk:k<js.length
    . rw[dL hk]at q;exact absurd (mB q) hnew
    .
     rw[eD ⋯]at q;have:k - js.length=0:=by
      cases hk0:k - js.length with
      |zero=>rfl
      |succ d=>rw[hk0]at q;cases q
     have:=L.len;rw[show k=hs.length by lia]
  .
   rw[fI e,L.own x k hx];by_cases hk:k<js.length
   . rw[dL hk]
   .
    rw[oS ⋯,eD ⋯];constructor
    . intro q;cases q
    .
     intro q;cases hk0:k - js.length with
     |zero=>rw[hk0]at q;cases q;exact absurd rfl e
     |succ d=>rw[hk0]at q;cases q
 .
  by_cases hk:k<hs.length
  . rw[dL hk]at e';obtain⟨M,m1,m2⟩:=L.on k h' e';refine⟨M,by rw[dL (by rw[L.len];exact hk)];exact m1,λm hm=>t5 _ (m2 m hm)⟩
  .
   rw[eD ⋯]at e';cases hk0:k - hs.length with
   |zero=>
    rw[hk0]at e';cases e';refine⟨N,by rw[eD (by rw[L.len];lia),L.len,hk0];rfl,λm hm=>t5 _ ?_⟩
    have:=f3 m hm;have hw:=(uJ (bare mask) h m).1;exact AC λz=>this ((L.free hw).mpr z)
   |succ d=>rw[hk0]at e';cases e'
end Sb
namespace Sb
open PySem
noncomputable def Bw(mask:Nat)(acc:Option (Array (Option Nat)×Nat))(h:Int):Option (Array (Option Nat)×Nat):=do
 let (owner,k) <- acc
 let j <- SetTable.layClean.free mask owner (SetTable.turns mask) (SetTable.bits h % (mask+1)) (SetTable.bits h)
 pure (owner.setIfInBounds j (some k),k+1)
theorem rS{mask:Nat}(hc:g8 mask=true):∀(l hs:List Int) (owner:Array (Option Nat)) (js:List Nat),Lay mask hs owner js->hs.length+l.length<=mask+1->∃owner' ZS,l.foldl (Bw mask) (some (owner,hs.length))=some (owner',(hs++l).length)/\Lay mask (hs++l) owner' ZS
 | [],hs,owner,js,L,_=>⟨owner,js,by rw[tP];rfl,by rw[tP];exact L⟩
 |h::l,hs,owner,js,L,hn=>by
  rw[i6]at hn;obtain⟨j,e,L'⟩:=L.step hc ⋯ h;obtain⟨o2,j2,w1,w2⟩:=rS hc l (hs++[h]) _ _ L' (by rw[eQ,oQ];lia)
  refine⟨o2,j2,?_,by rw[AH]at w2;exact w2⟩
  rw[List.foldl_cons];have st:Bw mask (some (owner,hs.length)) h=some (owner.setIfInBounds j (some hs.length),(hs++[h]).length):=by unfold Bw;simp only[Option.bind_eq_bind,Option.bind_some,e,eQ,oQ];rfl
  rw[st,w1,AH];rfl
theorem rT{mask:Nat}(hc:g8 mask=true)(hs:Array Int)(hn:hs.size<=mask):∃owner js,SetTable.layClean mask hs=some owner/\Lay mask hs.toList owner js:=by
 obtain⟨owner,js,w1,w2⟩:=rS hc hs.toList [] _ _ (Lay.start mask) (by have:=h9 (xs:=hs);rw[AF];lia)
 refine⟨owner,js,?_,w2⟩;unfold SetTable.layClean;have e:hs.foldl (Bw mask) (some (Array.replicate (mask+1) none,0))=some (owner,hs.toList.length):=by rw[<- Array.foldl_toList];exact w1
 show ((hs.foldl (Bw mask) (some (Array.replicate (mask+1) none,0))).map (·.1))=some owner;rw[e];rfl
theorem uL{f:Nat->Option Nat}:∀l:List Nat,(l.filterMap λj=>(f j).map (j,·)).map (·.1)=l.filter λj=>(f j).isSome
 | []=>rfl
 |j::l=>by
  rw[t8,Cf];cases e:f j with
  |none=>exact uL l
  |some k=>simp only[AY,List.map_cons,Option.isSome_some,A9];rw[uL l]
theorem d7{l:List Nat}(i:Nat):l.toArray.getD i 0=l.getD i 0:=by rw[getD_list]
theorem uM{p:Nat->Bool}(n:Nat):Bp ((List.range n).filter p).toArray:=λi k hik hk=>by
 rw[d7,d7];have hk':k<((List.range n).filter p).length:=by simpa using hk
 have pw:((List.range n).filter p).Pairwise (· < ·):=(List.pairwise_lt_range).filter p;have:=A7.mp pw i k ⋯ hk' hik;rw[hU,hU,eM (show i<_ by lia),eM hk']
 exact this
theorem Hf{mask:Nat}(hc:g8 mask=true)(hs:Array Int)(hn:hs.size<=mask)(finger moves:Nat)(led plain:Bool):∃t order,SetTable.laid mask finger moves led plain hs=some (t,order)/\t.mask=mask/\t.led=led/\t.plain=plain/\t.moves=moves/\order.toList.Perm (List.range hs.size)/\Tab t (λi=>hs.getD (order.getD i 0) 0) hs.size:=by
 obtain⟨owner,js,e1,L⟩:=rT hc hs hn;have aF:js.length=hs.size:=by rw[L.len,h9]
 obtain⟨live,hlive⟩:∃live,live=(List.range (mask+1)).filterMap λj=>(owner.getD j none).map (j,·):=⟨_,rfl⟩
 have iA:live.map (·.1)=(List.range (mask+1)).filter λj=>(owner.getD j none).isSome:=by rw[hlive];exact uL _
 have uN:∀j k,(j,k)∈live ↔ j<=mask/\js[k]?=some j:=λj k=>by
  rw[hlive,List.mem_filterMap];constructor
  .
   rintro⟨x,hx,e⟩;obtain⟨y,e2,e3⟩:=AT.mp e;cases e3;have hx':j<=mask:=by have:=pV.mp hx;lia
   exact⟨hx',(L.own j k hx').mp e2⟩
  . rintro⟨h1,h2⟩;exact⟨j,pV.mpr ⋯,by rw[(L.own j k h1).mpr h2];rfl⟩
 have Sf:∀j,j∈live.map (·.1) ↔ j∈js:=λj=>by
  rw[lS];constructor
  . rintro⟨⟨x,k⟩,hx,rfl⟩;exact mB ((uN x k).mp hx).2
  . intro hj;obtain⟨k,hk,e⟩:=yA hj;exact⟨(j,k),(uN j k).mpr ⟨L.le j hj,by rw[eM hk,e]⟩,rfl⟩
 have Q7:(live.map (·.1)).Nodup:=by rw[iA];exact List.nodup_range.filter _
 have tK:live.length=hs.size:=by have:=((List.perm_ext_iff_of_nodup Q7 L.nd).mpr Sf).length_eq;rw[gL,aF]at this;exact this
 have ZT:(live.map (·.2)).Nodup:=by
  have h1:live.Pairwise λa b=>a.1≠b.1:=List.pairwise_map.mp Q7
  refine List.pairwise_map.mpr (h1.imp_of_mem λ{a b} ha hb gG z=>gG ?_)
  have q1:=((uN a.1 a.2).mp ha).2;have q2:=((uN b.1 b.2).mp hb).2;rw[z,q2]at q1;exact (l6 q1).symm
 have perm:(live.map (·.2)).Perm (List.range hs.size):=by
  refine (List.perm_ext_iff_of_nodup ZT List.nodup_range).mpr λk=>?_
  rw[lS,pV];constructor
  . rintro⟨⟨j,x⟩,hx,rfl⟩;have:=(dE.mp ((uN j x).mp hx).2).1;lia
  .
   intro hk;have hk':k<js.length:=by lia
   exact⟨(js[k],k),(uN _ _).mpr ⟨L.le _ (sK hk'),eM hk'⟩,rfl⟩
 have Bv:Bp (live.map (·.1)).toArray:=by rw[iA];exact uM _
 refine⟨{ mask,place:=(live.map (·.1)).toArray,dummies:=#[],finger,led,moves,plain},(live.map (·.2)).toArray,?_,rfl,rfl,rfl,rfl,by simpa using perm,by simpa using tK,Bv,rfl,λi hi=>?_⟩
 . unfold SetTable.laid;rw[e1];show some _=some _;rw[hlive]
 .
  have hi':i<live.length:=by lia
  have hm:live[i]∈live:=sK hi';obtain⟨m1,m2⟩:=(uN live[i].1 live[i].2).mp hm;have g1:(live.map (·.1)).toArray.getD i 0=live[i].1:=by rw[d7,hU,mP,eM hi'];rfl
  have g2:(live.map (·.2)).toArray.getD i 0=live[i].2:=by rw[d7,hU,mP,eM hi'];rfl
  have hk:live[i].2<hs.toList.length:=by have:=(dE.mp m2).1;rw[L.len]at this;exact this
  have hk2:live[i].2<hs.size:=by rw[h9]at hk;exact hk
  obtain⟨N,n1,n2⟩:=L.on live[i].2 hs.toList[live[i].2] (eM hk);have wm:=λh k=>lF (t:=bare mask) (t':={ mask,place:=(live.map (·.1)).toArray,dummies:=#[],finger,led,moves,plain}) rfl h k
  have hh:hs.getD ((live.map (·.2)).toArray.getD i 0) 0=hs.toList[live[i].2]:=by rw[g2];simp[Array.getD,hk2]
  refine⟨N,?_,λm hm'=>?_⟩
  . dsimp only;rw[hh,wm,g1];rw[m2]at n1;exact (l6 n1).symm
  .
   rw[hh,wm];refine (fJ (t:={ mask,place:=(live.map (·.1)).toArray,dummies:=#[],finger,led,moves,plain}) Bv rfl _).1.mpr ?_;obtain⟨x,hx,e⟩:=yA ((Sf _).mpr (n2 m hm'));refine⟨x,by simpa using hx,?_⟩
   show (live.map (·.1)).toArray.getD x 0=_;rw[d7,hU,eM hx,e];rfl
end Sb
namespace Sb
open PySem
theorem Bx{t:SetTable}{j i:Nat}(h:t.slot j=.live i):i<t.place.size/\t.place.getD i 0=j:=by
 unfold SetTable.slot at h;dsimp only at h;split at h
 . rename_i e;cases h;have e:=eq_of_beq e;obtain⟨hl,e⟩:=yY.mp e;exact⟨hl,by simp[Array.getD,hl,e]⟩
 . split at h <;> cases h
def lG(es:Array (Int×Value))(i:Nat):Int:=(es[i]?.map (·.1)).getD 0
section
variable{prog:Program}{w:World}{A:Around}{E:Value->Shared->Prop}{s:Shared}
theorem jv{a:Addr}{o:Obj}{es:Array (Int×Value)}{ep:Nat}{t:SetTable}{x:Value}{h:Int}{yc:Nat->Bool}{N:Nat}{Q:SetFound->Shared->Prop}
  (ho:s.heap.get? a=some o) (hd:o.data=.set es ep t) (hf:t.fits es.size=true) (hw:t.gaveWay=false) (seen:t.led=false->∀(l:List Value) (Q':Bool->Shared->Prop),(∀y∈l,∃i:Nat,es[i]?=some (h,y))->Q' false s->wpAny (model prog w) A (searchCouldBeSeen x l) Q' E s) (T:Tab t (lG es) es.size)
  (hN:N<10 * SetTable.turns t.mask) (he:t.slot (way t h N).j=.empty) (hlive:∀m,m<N->pW t (way t h m).j)
  (eqs:∀i y,es[i]?=some (h,y)->(∃b,y=.ref b)/\∀Q':Bool->Shared->Prop,Q' (yc i) s->wpAny (model prog w) A (eqBool y x) Q' E s)
  (q1:(∃i,i<es.size/\lG es i=h/\yc i=true)->Q (.there none) s) (q2:(∀i,i<es.size->lG es i=h->yc i=false)->Q (.free (way t h N).j false) s) :
  ∀(fuel k:Nat) (st:Option SetTable.Probe),st.getD (t.probeStart h)=way t h k->k<=N->N - k<fuel->(∀m,m<k->∀i,t.slot (way t h m).j=.live i->lG es i=h->yc i=false)->
   wpAny (model prog w) A (setSearchFrom a x h true fuel st) Q E s
 | 0,k,st,_,_,hk,_=>absurd hk (l7 _)
 |fuel+1,k,st,dH,hkN,hk,hb=>by
  unfold setSearchFrom;refine aS (l9 ho hd hf ?_);dsimp only;rw[hw];simp only[fA,↓reduceIte];rw[dH];have hp:∀r,SetTable.probe.go t (lG es) h (10 * SetTable.turns t.mask) (way t h k)=r->t.probe (lG es) h (way t h k)=r:=λr e=>e
  rcases JC t (lG es) h (N - k) k (10 * SetTable.turns t.mask) (λm hm=>hlive (k+m) ⋯) (by rw[show k+(N - k)=N by lia];exact he) ⋯with ⟨m,i,g1,g2,g3,g4,g5⟩ |⟨g1,g2⟩
  .
   obtain⟨hi,_⟩:=Bx g2;rw[T.sz]at hi;obtain⟨hy,Sh⟩:∃y,es[i]?=some (h,y):=by
    have e:es[i]?=some es[i]:=l4 hi;have e2:lG es i=es[i].1:=by unfold lG;rw[e];rfl
    rw[g3]at e2;exact⟨es[i].2,by rw[e,e2]⟩
   obtain⟨⟨b,rfl⟩,eq⟩:=eqs i hy Sh;have pe:=hp _ g5;show wpAny (model prog w) A (do
    let some met:=t.probe (lG es) h (way t h k) |_
    _) Q E s
   rw[pe];dsimp only;cases WT:t.led with
   |true=>
    simp only[AA,fA,↓reduceIte];rw[Sh];dsimp only;refine aS (i7 (eq _ ?_));refine aS (l9 ho hd hf ?_);dsimp only;have sm:t.sameMemory t.moves t.mask=some true:=by unfold SetTable.sameMemory;rw[t6];rfl
    cases hk2:yc i with
    |true=>simp only[Bool.and_self,↓reduceIte];exact bP (q1 ⟨i,hi,g3,hk2⟩)
    |false=>
     simp only[AS,fA,↓reduceIte];rw[sm];dsimp only;simp only[↓reduceIte];rw[g2];dsimp only;rw[Sh];dsimp only;refine aS (wpAny_isSame_ref_self ?_);simp only[↓reduceIte];refine aS (bP ?_);refine jv ho hd hf hw seen T hN he hlive eqs q1 q2 fuel (k+m+1) _ rfl ⋯ ⋯ λm' hm' i' hs' hh=>?_
     rcases AI m' (k+m)with q |q |q
     .
      by_cases h1:m'<k
      . exact hb m' h1 i' hs' hh
      . exact absurd hh (g4 (m' - k) ⋯ i' (by rw[show k+(m' - k)=m' by lia];exact hs'))
     . rw[q,g2]at hs';cases hs';exact hk2
     . lia
   |false=>
    simp only[Bool.not_false,↓reduceIte];refine aS (seen WT _ _ (λy hy=>?_) ?_)
    . obtain⟨e,he',rfl⟩:=lS.mp hy;have ZV:=CA.mp he';obtain⟨hm,hh⟩:=Array.mem_filter.mp ZV;obtain⟨j,hj,ej⟩:=Array.getElem_of_mem hm;refine⟨j,?_⟩;rw[l4 hj,ej];have:e.1=h:=eq_of_beq hh;rw[<- this]
    .
     simp only[fA,↓reduceIte];rw[Sh];dsimp only;refine aS (i7 (eq _ ?_));refine aS (l9 ho hd hf ?_);dsimp only;have sm:t.sameMemory t.moves t.mask=some true:=by unfold SetTable.sameMemory;rw[t6];rfl
     cases hk2:yc i with
     |true=>simp only[Bool.and_self,↓reduceIte];exact bP (q1 ⟨i,hi,g3,hk2⟩)
     |false=>
      simp only[AS,fA,↓reduceIte];rw[sm];dsimp only;simp only[↓reduceIte];rw[g2];dsimp only;rw[Sh];dsimp only;refine aS (wpAny_isSame_ref_self ?_);simp only[↓reduceIte];refine aS (bP ?_);refine jv ho hd hf hw seen T hN he hlive eqs q1 q2 fuel (k+m+1) _ rfl ⋯ ⋯ λm' hm' i' hs' hh=>?_
      rcases AI m' (k+m)with q |q |q
      .
       by_cases h1:m'<k
       . exact hb m' h1 i' hs' hh
       . exact absurd hh (g4 (m' - k) ⋯ i' (by rw[show k+(m' - k)=m' by lia];exact hs'))
      . rw[q,g2]at hs';cases hs';exact hk2
      . lia
  .
   have pe:=hp _ g2;show wpAny (model prog w) A (do
    let some met:=t.probe (lG es) h (way t h k) |_
    _) Q E s
   rw[pe];dsimp only;rw[show k+(N - k)=N by lia]
   refine bP (q2 λi hi e=>?_)
   obtain⟨m,m1,m2⟩:=T.ahead hlive he hi e;by_cases hmk:m<k
   . exact hb m hmk i m2 e
   . exact absurd e (g1 (m - k) ⋯ i (by rw[show k+(m - k)=m by lia];exact m2))
end
end Sb
namespace Sb
open PySem
def masks:List Nat:=[7,31,127,511,2047]
theorem jw{m:Nat}(h:m∈masks):g8 m=true/\m % 2=1:=by
 unfold masks at h;simp only[dS,i8,wS]at h;rcases h with rfl |rfl |rfl |rfl |rfl
 . exact⟨WQ,rfl⟩
 . exact⟨Se,rfl⟩
 . exact⟨Ng,rfl⟩
 . exact⟨Nh,rfl⟩
 . exact⟨G8,rfl⟩
structure SetT(o:Obj)(es:Array (Int×Value))(ep:Nat)(t:SetTable):Prop where
 ex:o.ExactSet
 data:o.data=.set es ep t
 tab:Tab t (lG es) es.size
 mq:t.mask∈masks
 room:es.size * 5<t.mask * 3
 plain:t.plain=true
theorem SetT.fits{o:Obj}{es:Array (Int×Value)}{ep:Nat}{t:SetTable}(S:SetT o es ep t):t.fits es.size=true:=by unfold SetTable.fits SetTable.fill;rw[S.tab.sz,S.tab.yU];have:=S.room;simp only[eJ,t6,true_and,i5];show es.size+0<=t.mask;lia
theorem SetT.gave{o:Obj}{es:Array (Int×Value)}{ep:Nat}{t:SetTable}(S:SetT o es ep t):t.gaveWay=false:=by unfold SetTable.gaveWay;rw[(jw S.mq).2];rfl
theorem rW{m n:Nat}(hm:m∈masks)(h1:(n - 1) * 5<m * 3)(h2:m * 3<=n * 5)(hn:n<=1000):SetTable.sizeAbove (SetTable.grown n) - 1∈masks/\n * 5<(SetTable.sizeAbove (SetTable.grown n) - 1) * 3:=by
 unfold masks at hm;simp only[dS,i8,wS]at hm;have hg:SetTable.grown n=n * 4:=by unfold SetTable.grown;rw[fI ⋯]
 rw[hg];rcases hm with rfl |rfl |rfl |rfl |rfl
 .
  obtain rfl:n=5:=by lia
  exact⟨by decide,by decide⟩
 .
  obtain rfl:n=19:=by lia
  exact⟨by decide,by decide⟩
 .
  obtain rfl:n=77:=by lia
  exact⟨by decide,by decide⟩
 .
  obtain rfl:n=307:=by lia
  exact⟨by decide,by decide⟩
 . lia
end Sb
namespace Sb
open PySem
theorem By{xs:Array (Int×Value)}{p:Nat}{x:Int×Value}(hp:p<=xs.size)(i:Nat):(SetTable.insertAt xs p x)[i]?=if i<p then xs[i]? else if i=p then some x else xs[i - 1]?:=by
 have e:(SetTable.insertAt xs p x)[i]?=(SetTable.insertAt xs p x).toList[i]?:=by simp
 have e2:(SetTable.insertAt xs p x).toList=xs.toList.take p++x::xs.toList.drop p:=by unfold SetTable.insertAt;simp[List.take_of_length_le]
 rw[e,e2,List.getElem?_append];have hl:(xs.toList.take p).length=p:=by simp[hp]
 rw[hl];by_cases h1:i<p
 . simp[h1]
 .
  rw[fI h1,fI h1];by_cases h2:i=p
  . subst h2;simp
  .
   rw[fI h2,show i - p=(i - p - 1)+1 by lia,List.getElem?_cons_succ,List.getElem?_drop,show p+(i - p - 1)=i - 1 by lia]
   simp
theorem n9{xs:Array (Int×Value)}{p:Nat}{x:Int×Value}:(SetTable.insertAt xs p x).toList.Perm (xs.toList++[x]):=by
 have e2:(SetTable.insertAt xs p x).toList=xs.toList.take p++x::xs.toList.drop p:=by unfold SetTable.insertAt;simp[List.take_of_length_le]
 rw[e2];have h1:(xs.toList.take p++x::xs.toList.drop p).Perm (x::(xs.toList.take p++xs.toList.drop p)):=List.perm_middle;rw[AZ]at h1;exact h1.trans (List.perm_append_singleton x xs.toList).symm
theorem Hg{es:Array (Int×Value)}{p:Nat}{h:Int}{x:Value}(hp:p<=es.size):lG (SetTable.insertAt es p (h,x))=G9 (lG es) p h:=by
 funext i
 unfold lG G9;rw[By hp];split
 . rfl
 .
  split
  . rfl
  . rfl
theorem yd{es:Array (Int×Value)}{p:Nat}{x:Int×Value}:(SetTable.insertAt es p x).size=es.size+1:=by have:=(n9 (xs:=es) (p:=p) (x:=x)).length_eq;simpa using this
theorem BG{es:Array (Int×Value)}:∀l:List Nat,(∀i∈l,i<es.size)->l.filterMap (es[·]?)=l.map λi=>es[i]?.getD (0,.none)
 | [],_=>rfl
 |i::l,h=>by
  have hi:=h i (dC ..);have e:es[i]?=some es[i]:=l4 hi;rw[t8,e,List.map_cons,e,BG l λj hj=>h j (b0 _ hj)]
  rfl
theorem yf(es:Array (Int×Value)):(List.range es.size).map (λi=>es[i]?.getD (0,.none))=es.toList:=by
 apply List.ext_getElem
 . simp
 .
  intro i h1 h2;have hi:i<es.size:=by simpa using h2
  simp[hi]
theorem ZW{es:Array (Int×Value)}{order:Array Nat}(hp:order.toList.Perm (List.range es.size)) :
  (order.filterMap (es[·]?)).size=es.size/\(order.filterMap (es[·]?)).toList.Perm es.toList/\∀i,i<es.size->(es.map (·.1)).getD (order.getD i 0) 0=lG (order.filterMap (es[·]?)) i:=by
 have hin:∀i∈order.toList,i<es.size:=λi hi=>pV.mp (hp.mem_iff.mp hi)
 have aF:order.toList.length=es.size:=by rw[hp.length_eq,B2]
 have e:(order.filterMap (es[·]?)).toList=order.toList.map λi=>es[i]?.getD (0,.none):=by rw[Array.toList_filterMap];exact BG _ hin
 have Si:(order.filterMap (es[·]?)).toList.Perm es.toList:=by rw[e,<- yf es];exact hp.map _
 refine⟨by rw[<- h9,Si.length_eq,h9],Si,λi hi=>?_⟩
 have hio:i<order.toList.length:=by lia
 have ho:order.getD i 0=order.toList[i]:=by rw[getD_list,hU,eM hio];rfl
 have Hi:order.toList[i]<es.size:=hin _ (sK hio);unfold lG;rw[<- y7,e,mP,eM hio,ho,AY];generalize order.toList[i]=k at Hi;simp[Array.getD,Hi]
theorem Tab.congr{t:SetTable}{hs hs':Nat->Int}{n:Nat}(T:Tab t hs n)(e:∀i,i<n->hs i=hs' i):Tab t hs' n:=
 ⟨T.sz,T.uG,T.yU,λi hi=>by rw[<- e i hi];exact T.on i hi⟩
end Sb
namespace Sb
open PySem
section
variable{prog:Program}{w:World}{A:Around}{E:Value->Shared->Prop}{s:Shared}
theorem BJ(a:Addr)(wanted:Nat):setRelay a wanted=(do
  let (es,_,t) <- setState a
  if SetTable.sizeAbove wanted > sizeLine then unsupported "set:memory"
  let (es,t) <- (do
   let some (t,order):=t.relaid (es.map (·.1)) wanted |unsupported "internal:set-table-without-room"
   let es':=order.filterMap (es[·]?)
   if es'.size != es.size then unsupported "internal:set-table-lost-an-element"
   pure (es',t))
  storeSet a es t):=rfl
theorem BK{a:Addr}{o:Obj}{es:Array (Int×Value)}{ep:Nat}{t:SetTable}{wanted:Nat}{Q:Unit->Shared->Prop}
  (ho:s.heap.get? a=some o) (hd:o.data=.set es ep t) (hf:t.fits es.size=true) (hc:g8 (SetTable.sizeAbove wanted - 1)=true) (hn:es.size<=SetTable.sizeAbove wanted - 1) (hz:SetTable.sizeAbove wanted<=sizeLine)
  (q:∀es' t',es'.size=es.size->es'.toList.Perm es.toList->t'.mask=SetTable.sizeAbove wanted - 1->t'.plain=t.plain->t'.led=t.led->Tab t' (lG es') es.size->Q () { s with heap:=s.heap.update a (Obj.putSet es' t')}) :
  wpAny (model prog w) A (setRelay a wanted) Q E s:=by
 rw[BJ];refine aS (l9 ho hd hf ?_);dsimp only;rw[fI (Nat.not_lt.mpr hz)];obtain⟨t',order,e,hm,hl,iA,Sj,JD,T⟩:=Hf hc (es.map (·.1)) (by simpa using hn) t.finger (t.movedTo (SetTable.sizeAbove wanted - 1)) t.led t.plain
 have e':t.relaid (es.map (·.1)) wanted=some (t',order):=e;rw[e'];dsimp only;rw[Array.size_map]at JD T;obtain⟨r1,r2,r3⟩:=ZW JD;have r1':((order.filterMap (es[·]?)).size != es.size)=false:=by rw[r1];simp
 rw[r1'];simp only[fA,↓reduceIte];refine aS (bP ?_);dsimp only;refine wpAny_storeSet_of ho hd (q _ _ r1 r2 hm iA hl (T.congr r3)) ?_;rw[r1];lia
end
end Sb
namespace Sb
open PySem
section
variable{prog:Program}{w:World}{A:Around}{E:Value->Shared->Prop}{s:Shared}
theorem Hj{a:Addr}{o:Obj}{es:Array (Int×Value)}{ep:Nat}{t:SetTable}{x:Value}{h:Int}{yc:Nat->Bool}{Q:Bool->Shared->Prop}
  (ho:s.heap.get? a=some o) (S:SetT o es ep t) (hx:x.scannable=false) (hn:es.size<1000)
  (seen:t.led=false->∀(l:List Value) (Q':Bool->Shared->Prop),(∀y∈l,∃i:Nat,es[i]?=some (h,y))->Q' false s->wpAny (model prog w) A (searchCouldBeSeen x l) Q' E s)
  (eqs:∀i y,es[i]?=some (h,y)->(∃b,y=.ref b)/\∀Q':Bool->Shared->Prop,Q' (yc i) s->wpAny (model prog w) A (eqBool y x) Q' E s)
  (ZZ:∀Q':Bool->Shared->Prop,Q' true s->wpAny (model prog w) A (hashByValue 8 x) Q' E s)
  (q1:(∃i,i<es.size/\lG es i=h/\yc i=true)->Q false s)
  (q2:(∀i,i<es.size->lG es i=h->yc i=false)->∀h' es' qG t',Heap.SameBut a s.heap h'->h'.get? a=some { o with data:=.set es' qG t'}->SetT { o with data:=.set es' qG t'} es' qG t'->es'.toList.Perm (es.toList++[(h,x)])->t'.led=t.led->Q true { s with heap:=h'})
  (fuel:Nat):wpAny (model prog w) A (setAddHashedIn a x h (fuel+1)) Q E s:=by
 have hd:=S.data;have hf:=S.fits;obtain⟨N,hN,he,hlive⟩:=rR S.tab (jw S.mq).1 (by have:=S.room;lia) h
 unfold setAddHashedIn;refine aS (l9 ho hd hf ?_);dsimp only;have hb:byScan x es=false:=by unfold byScan;rw[hx];rfl
 rw[hb];simp only[fA,↓reduceIte];unfold setSearch;have hm7:t.mask<=2047:=by have:=S.mq;unfold masks at this;simp only[dS,i8,wS]at this;lia
 have hNb:N<100000:=by
  have:SetTable.turns t.mask<=5000:=by unfold SetTable.turns;lia
  lia
 refine aS (jv (yc:=yc) ho hd hf S.gave seen S.tab hN he hlive eqs (λhq=>?_) (λhq=>?_) 100000 0 none rfl ⋯ ⋯ λm hm=>absurd hm (l7 _))
 . dsimp only;exact bP (q1 hq)
 .
  dsimp only;refine aS (l9 ho hd hf ?_);dsimp only;have TP:=S.tab.put hlive he;have pi:=Bu t S.tab.yU (way t h N).j;have Yq:SetTable.below t.place (way t h N).j<=es.size:=by have:=(iO S.tab.uG (way t h N).j).1;rw[S.tab.sz]at this;exact this
  rw[pi]at TP ⊢
  dsimp only at TP ⊢
  generalize SetTable.below t.place (way t h N).j=p at TP Yq ⊢
  rw[fN S.plain];refine aS (ZZ _ ?_);simp only[↓reduceIte];generalize ht1:({ t with place:=SetTable.insertAt t.place p (way t h N).j}:SetTable)=t1 at TP ⊢
  have hm1:t1.mask=t.mask:=by rw[<- ht1]
  have hp1:t1.plain=true:=by rw[<- ht1];exact S.plain
  have hl1:t1.led=t.led:=by rw[<- ht1]
  have hs1:(SetTable.insertAt es p (h,x)).size=es.size+1:=yd;have T1:Tab t1 (lG (SetTable.insertAt es p (h,x))) (SetTable.insertAt es p (h,x)).size:=by rw[hs1,Hg Yq];exact TP
  have hf1:t1.fits (SetTable.insertAt es p (h,x)).size=true:=by have:=S.room;unfold SetTable.fits SetTable.fill;rw[T1.sz,T1.yU,hs1,hm1];simp only[eJ,t6,true_and,i5];show es.size+1+0<=t.mask;lia
  generalize Z0:SetTable.insertAt es p (h,x)=es1 at hs1 T1 hf1 ⊢
  have Si:es1.toList.Perm (es.toList++[(h,x)]):=by rw[<- Z0];exact n9
  have hz1:es1.size<=sizeLine:=by unfold sizeLine;lia
  refine aS (wpAny_storeSet_of ho hd ?_ hz1);have nM:(s.heap.update a (Obj.putSet es1 t1)).get? a=some { o with data:=.set es1 (ep+1) t1}:=by
   have:=oI (Obj.putSet es1 t1) ho (by rw[putSet_of es1 t1 hd];rfl)
   rw[putSet_of es1 t1 hd]at this;exact this
  have Yr:=u8 s.heap a (Obj.putSet es1 t1);have hfill:t1.fill=es1.size:=by unfold SetTable.fill;rw[T1.sz,T1.yU];rfl
  by_cases tf:t1.tooFull=true
  .
   rw[tf];simp only[Bool.not_false,Bool.and_self,↓reduceIte];have Z1:t.mask * 3<=(es.size+1) * 5:=by unfold SetTable.tooFull at tf;rw[hfill,hm1,hs1]at tf;exact nS tf
   obtain⟨g1,g2⟩:=rW S.mq (n:=es.size+1) (by have:=S.room;lia) Z1 ⋯
   refine aS (BK nM rfl hf1 (jw g1).1 (by rw[hs1];lia) ?_ λes' t' z1 z2 z3 z4 z5 z6=>?_)
   .
    have:SetTable.sizeAbove (SetTable.grown (es.size+1)) - 1<=2047:=by unfold masks at g1;simp only[dS,i8,wS]at g1;lia
    unfold sizeLine;lia
   .
    have P7:((s.heap.update a (Obj.putSet es1 t1)).update a (Obj.putSet es' t')).get? a=some { o with data:=.set es' (ep+1+1) t'}:=by
     have:=oI (Obj.putSet es' t') nM (by rw[putSet_of es' t' rfl];rfl)
     rw[putSet_of es' t' rfl]at this;exact this
    refine bP (q2 hq _ es' (ep+1+1) t' (Yr.trans (u8 _ a _)) P7 ⟨S.ex,rfl,by rw[z1];exact z6,by rw[z3];exact g1,by rw[z1,z3,hs1];exact g2,by rw[z4];exact hp1⟩ (z2.trans Si) (z5.trans hl1))
  .
   have U0:t1.tooFull=false:=by simpa using tf
   rw[U0];simp only[Bool.not_false,AS,fA,↓reduceIte];refine bP (q2 hq _ es1 (ep+1) t1 Yr nM ⟨S.ex,rfl,T1,by rw[hm1];exact S.mq,?_,hp1⟩ Si hl1)
   unfold SetTable.tooFull at U0;rw[hfill]at U0;have:=BM U0;lia
end
end Sb
namespace Sb
open PySem
section
variable{prog:Program}{w:World}{A:Around}{E:Value->Shared->Prop}{s:Shared}{K:Type} [DecidableEq K] {knd:KeyKind prog w K}
theorem yg{ks:List K}{a:Addr}{Q:Bool->Shared->Prop}(hk:IsTupleKey knd s.heap ks a)(hint:∀k v,knd.is k v=true->hashByValue 7 v=pure true)(h:Q true s):wpAny (model prog w) A (hashByValue 8 (.ref a)) Q E s:=by
 have hT:=hk.typeIs;obtain⟨o,items,n,ho,_,hd,hi⟩:=hk;have hall:∀v∈items.toList,hashByValue 7 v=pure true:=by
  clear hd ho;generalize items.toList=l at hi
  induction hi with
  |nil=>intro v hv;cases hv
  |cons h1 _ ih=>
   intro v hv;rcases dS.mp hv with rfl |hv
   . exact hint _ _ h1
   . exact ih v hv
 unfold hashByValue;refine aS (wpAny_specialOf hT F.slot_tuple_hash.lookup ?_);dsimp only;refine aS (v0 ho hd ?_);refine aS ?_;show wpAny _ _ (forIn items _ _) _ _ s;rw[<- Array.forIn_toList];refine B9 _ (λrest r s'=>r.1=none/\s'=s/\∀v∈rest,hashByValue 7 v=pure true) _ ?_ ?_ _ _ ⟨rfl,rfl,hall⟩
 . rintro v rest r s' ⟨hr,rfl,hall⟩;rw[hall v dC];refine aS (bP ?_);simp only[AA,fA,CB];exact bP ⟨rfl,rfl,λu Sl=>hall u (b0 _ Sl)⟩
 . rintro⟨r1,r2⟩ s' ⟨hr,rfl,_⟩;simp only at hr;subst hr;exact bP h
theorem pY(n:Nat){v:Value}(h:carriedByValue v=true):ofAClassStatement n v=pure false:=by
 cases v with
 |ref a=>simp[carriedByValue]at h
 |_=>first |rfl |simp[ofAClassStatement] | (unfold ofAClassStatement;rfl)
theorem lH{ks:List K}{a:Addr}{Q:Bool->Shared->Prop}(hk:IsTupleKey knd s.heap ks a)(h:Q false s):wpAny (model prog w) A (ofAClassStatement 8 (.ref a)) Q E s:=by
 have hT:=hk.typeIs;obtain⟨o,items,n,ho,_,hd,hi⟩:=hk;unfold ofAClassStatement;refine aS (AJ hT ?_);dsimp only;refine aS ?_;refine bP ?_;simp only[AA,fA,CB];refine aS (v0 ho hd ?_);dsimp only;refine aS ?_;rw[<- Array.forIn_toList];refine B9 _ (λrest r s'=>r.1=none/\s'=s/\∀v∈rest,carriedByValue v=true) _ ?_ ?_ _ _ ⟨rfl,rfl,hi.byValue⟩
 . rintro v rest r s' ⟨hr,rfl,hall⟩;rw[pY _ (hall v dC)];refine aS (bP ?_);simp only[AA,fA,CB];exact bP ⟨rfl,rfl,λu Sl=>hall u (b0 _ Sl)⟩
 . rintro⟨r1,r2⟩ s' ⟨hr,rfl,_⟩;simp only at hr;subst hr;exact bP h
theorem uO{ks:List K}{a:Addr}{l:List Value}{Q:Bool->Shared->Prop}(hk:IsTupleKey knd s.heap ks a)(hl:∀y∈l,∃b ks',y=.ref b/\IsTupleKey knd s.heap ks' b)(h:Q false s):wpAny (model prog w) A (searchCouldBeSeen (.ref a) l) Q E s:=by
 unfold searchCouldBeSeen;refine aS ?_;refine B9 _ (λrest r s'=>r.1=none/\s'=s/\∀y∈rest,∃b ks',y=.ref b/\IsTupleKey knd s.heap ks' b) _ ?_ ?_ _ _ ⟨rfl,rfl,hl⟩
 .
  rintro v rest r s' ⟨hr,rfl,hall⟩;obtain⟨b,ks',rfl,hb⟩:=hall v dC;have JF:=λu Sl=>hall u (b0 _ Sl)
  dsimp only;by_cases e:(a==b)=true
  . rw[e];simp only[Bool.true_or,↓reduceIte];exact bP ⟨rfl,rfl,JF⟩
  .
   have e0:(a==b)=false:=by simpa using e
   rw[e0];have c:carriedByValue (.ref a)=false:=rfl;rw[c];simp only[AR,Bool.or_self,fA,↓reduceIte];refine aS (wpAny_eqIsQuiet_tuple hk ?_);simp only[AA,fA,↓reduceIte];refine aS (wpAny_eqIsQuiet_tuple hb ?_);simp only[AA,fA,↓reduceIte];refine aS (lH hk ?_);simp only[fA,↓reduceIte];refine aS (lH hb ?_);simp only[fA,↓reduceIte];exact bP ⟨rfl,rfl,JF⟩
 . rintro⟨r1,r2⟩ s' ⟨hr,rfl,_⟩;simp only at hr;subst hr;exact bP h
end
end Sb
namespace Sb
open PySem
section
variable{prog:Program}{w:World}{A:Around}{E:Value->Shared->Prop}{s:Shared}{K:Type} [DecidableEq K] (knd:KeyKind prog w K) (B:List K->Addr->Prop)
def d8(h:Heap)(k:List K)(e:Int×Value):Prop:=∃b,B k b/\e=(tupleKeyHash knd k,.ref b)/\IsTupleKey knd h k b
def dj(h:Heap)(a:Addr)(ks:List (List K)):Prop:=
 ∃o es ep t,h.get? a=some o/\SetT o es ep t/\(w.params.followText "set-order"=false->t.led=true)/\ks.Nodup/\∃l:List (Int×Value),es.toList.Perm l/\ks.length=l.length/\∀(i:Nat) k e,ks[i]?=some k->l[i]?=some e->d8 knd B h k e
variable{knd B}
theorem d8.keeps{h h':Heap}{k:List K}{e:Int×Value}{d:Addr}{o:Obj}{es ep t}(x:d8 knd B h k e)(ho:h.get? d=some o)(hd:o.data=.set es ep t)(hs:Heap.SameBut d h h'):d8 knd B h' k e:=by
 obtain⟨b,hb,rfl,o',items,n,ho',hc,hd',hi⟩:=x;have gG:b≠d:=by rintro rfl;obtain rfl:o'=o:=l6 (ho'.symm.trans ho);rw[hd]at hd';exact nomatch hd'
 exact⟨b,hb,rfl,o',items,n,(hs.2 b gG).trans ho',hc,hd',hi⟩
theorem uP{h:Heap}{ks:List (List K)}{l:List (Int×Value)}(hl:ks.length=l.length)(sh:∀(i:Nat) k e,ks[i]?=some k->l[i]?=some e->d8 knd B h k e) :
  (∀e∈l,∃k∈ks,d8 knd B h k e)/\∀k∈ks,∃e∈l,d8 knd B h k e:=by
 refine⟨λe he=>?_,λk hk=>?_⟩
 .
  obtain⟨i,hi,rfl⟩:=yA he;have hi':i<ks.length:=by lia
  exact⟨ks[i],sK hi',sh i _ _ (eM hi') (eM hi)⟩
 .
  obtain⟨i,hi,rfl⟩:=yA hk;have hi':i<l.length:=by lia
  exact⟨l[i],sK hi',sh i _ _ (eM hi) (eM hi')⟩
theorem add_tuple{a b:Addr}{k:List K}{ks:List (List K)}{Q:Bool->Shared->Prop}(hu:A.units<cLine)(hS:dj knd B s.heap a ks)(hk:IsTupleKey knd s.heap k b)(hB:B k b)
  (hint:∀k v,knd.is k v=true->hashByValue 7 v=pure true) (hn:ks.length<1000)
  (q1:k∈ks->Q false s) (q2:k∉ks->∀h',Heap.SameBut a s.heap h'->dj knd B h' a (ks++[k])->Q true { s with heap:=h'}) :
  wpAny (model prog w) A (setAddHashed a (.ref b) (tupleKeyHash knd k)) Q E s:=by
 classical
 obtain⟨o,es,ep,t,ho,S,ld,nd,l,pm,hl,sh⟩:=hS;obtain⟨t1,t2⟩:=uP hl sh;have tK:es.size=ks.length:=by rw[<- h9,pm.length_eq,hl]
 have mem:∀(i:Nat) e,es[i]?=some e->e∈l:=λi e he=>pm.mem_iff.mp (CA.mpr (Array.mem_of_getElem? he))
 unfold setAddHashed;refine i7 (Hj (yc:=λi=>decide (∃e,es[i]?=some e/\d8 knd B s.heap k e)) ho S rfl ⋯ (λ_ l' Q' hl' hq=>uO hk (λy hy=>?_) hq) (λi y hy=>?_) (λQ' hq=>yg hk hint hq) (λhq=>?_) (λhq h' es' qG t' sb hg S' pm' l'=>?_) _)
 . obtain⟨i,hi⟩:=hl' y hy;obtain⟨k',_,c,_,e1,e2⟩:=t1 _ (mem i _ hi);exact⟨c,k',congrArg Prod.snd e1,e2⟩
 .
  obtain⟨k',_,c,cb,e1,e2⟩:=t1 _ (mem i _ hy);have e3:y=.ref c:=congrArg Prod.snd e1;have e4:tupleKeyHash knd k=tupleKeyHash knd k':=congrArg Prod.fst e1;subst e3;refine⟨⟨c,rfl⟩,λQ' hq=>wpAny_eqBool_tuple hu e2 hk ?_⟩
  have:decide (k'=k)=decide (∃e,es[i]?=some e/\d8 knd B s.heap k e):=by
   apply decide_eq_decide.mpr;constructor
   . rintro rfl;exact⟨_,hy,c,cb,by rw[e4],e2⟩
   . rintro⟨e,he,c',_,e5,e6⟩;rw[hy]at he;cases he;have:Value.ref c=.ref c':=congrArg Prod.snd e5;injection this with this;subst this;exact e2.inj e6
  rw[this];exact hq
 . obtain⟨i,_,_,hd⟩:=hq;obtain⟨e,he,sw⟩:=nS hd;obtain⟨k',hk',c,_,e1,e2⟩:=t1 _ (mem i _ he);obtain⟨c',_,e3,e4⟩:=sw;have:Value.ref c=.ref c':=congrArg Prod.snd (e1.symm.trans e3);injection this with this;subst this;have ek:k=k':=e4.inj e2;exact q1 (ek▸hk')
 .
  have hnk:k∉ks:=λhin=>by
   obtain⟨e,he,sw⟩:=t2 k hin;obtain⟨i,hi,ei⟩:=Array.getElem_of_mem (CA.mp (pm.mem_iff.mpr he));have gi:es[i]?=some e:=by rw[l4 hi,ei]
   have hh:lG es i=tupleKeyHash knd k:=by obtain⟨c,_,e1,_⟩:=sw;unfold lG;rw[gi,e1];rfl
   have:=hq i hi hh;exact absurd ⟨e,gi,sw⟩ (BM this)
  refine q2 hnk h' sb ⟨_,es',qG,t',hg,S',λhw=>l'.trans (ld hw),?_,l++[(tupleKeyHash knd k,.ref b)],pm'.trans (pm.append_right _),by simp[hl],λi k' e hi he=>?_⟩
  .
   rw[u7];refine⟨nd,by simp,λx hx y hy=>?_⟩
   rw[gN.mp hy];rintro rfl;exact hnk hx
  .
   by_cases hi':i<ks.length
   . rw[dL hi']at hi;rw[dL ⋯]at he;exact (sh i k' e hi he).keeps ho S.data sb
   .
    rw[eD ⋯]at hi he;rw[<- hl]at he;have z:i - ks.length=0:=by
     by_cases z:i - ks.length=0
     . exact z
     .
      rw[oS (by simp;lia)]at hi
      cases hi
    rw[z]at hi he;cases hi;cases he;exact d8.keeps ⟨b,hB,rfl,hk⟩ ho S.data sb
end
end Sb
namespace Sb
open PySem
section
variable{prog:Program}{w:World}{A:Around}{E:Value->Shared->Prop}{s:Shared}{K:Type} [DecidableEq K] {knd:KeyKind prog w K}{B:List K->Addr->Prop}
theorem yh(led:Bool)(hs:Nat->Int):Tab (.fresh 0 0 led) hs 0:=
 ⟨rfl,λi k _ hk=>absurd hk (l7 _),rfl,λi hi=>absurd hi (l7 _)⟩
theorem vY{α:Type}:∀(l:List α) (i:Nat) (h:i<l.length),(l[i]::l.eraseIdx i).Perm l
 | [],_,h=>absurd h (l7 _)
 |a::l,0,_=>.refl _
 |a::l,i+1,h=>by
  have h':i<l.length:=by simpa using h
  have:((a::l)[i+1]::(a::l).eraseIdx (i+1))=l[i]::a::l.eraseIdx i:=rfl;rw[this];exact (List.Perm.swap a l[i] _).trans (.cons a (vY l i h'))
theorem vZ{α:Type}(next:Nat->Nat):∀(n k:Nat) (l:List α) (out:Array α),l.length=n->(pickOrder.go next n k l out).toList.Perm (out.toList++l)
 | 0,k,l,out,h=>by
  cases l with
  |nil=>simp[pickOrder.go]
  |cons _ _=>simp at h
 |n+1,k,l,out,h=>by
  have hl:next k % l.length<l.length:=Nat.mod_lt _ ⋯;unfold pickOrder.go;rw[eM hl];dsimp only;refine (vZ next n (k+1) _ _ (by rw[List.length_eraseIdx_of_lt hl];lia)).trans ?_
  rw[Array.toList_push,AH];refine List.Perm.append_left _ ?_;exact vY _ _ hl
theorem yi{α:Type}(next:Nat->Nat)(xs:Array α):(pickOrder next xs).toList.Perm xs.toList:=by have:=vZ next xs.size 0 xs.toList #[] ⋯;simpa [pickOrder]using this
theorem Hl(a:Addr):setWalk a=(do
  let (es,epoch,t) <- setState a
  if <- setsByText then return pickOrder ((<- ask).params.setOrder a epoch) es
  if !t.plain&&es.size > 1 then return (<- drawOrder es.size es.toList).toArray
  (do if !t.led&&es.size > 1 then unsupported "set:maker-not-led":Sem Unit)
  return es):=rfl
theorem pZ{a b:Addr}{k:List K}{ks:List (List K)}{Q:Bool->Shared->Prop}(hu:A.units<cLine)(hS:dj knd B s.heap a ks)(hk:IsTupleKey knd s.heap k b)(hB:B k b)
  (hint:∀k v,knd.is k v=true->hashByValue 7 v=pure true) (hn:ks.length<1000)
  (q1:k∈ks->Q false { s with toks:=s.toks+(k.length+1)}) (q2:k∉ks->∀h',Heap.SameBut a s.heap h'->dj knd B h' a (ks++[k])->Q true { s with heap:=h',toks:=s.toks+(k.length+1)}) :
  wpAny (model prog w) A (setAdd a (.ref b)) Q E s:=by
 unfold setAdd;refine i7 (aS (wpAny_pyHash_tuple hu hk ?_));exact add_tuple hu hS hk hB hint hn q1 q2
theorem BL:∀k v,(intKind prog w).is k v=true->hashByValue 7 v=pure true:=λk v h=>by
 obtain⟨t,rfl⟩:=Value.isInt_shape h;rfl
end
end Sb
namespace Sb
open PySem PyProof.Rows
section
variable{prog:Program}{w:World}{A:Around}{s s':Shared}{K:Type} [DecidableEq K] {knd:KeyKind prog w K}{B:List K->Addr->Prop}{R:Result->Shared->Prop}{I:Addr}{fp wr:List Addr}{G:Array GenState->Array GenState->Prop}{n:Nat}{P:Nat->Value->Prop}{St:Nat->Shared->Prop}
noncomputable def more(ks:List (List K))(k:List K):List (List K):=if k∈ks then ks else ks++[k]
def met(val:Nat->List K):Nat->List (List K)
 | 0=>[]
 |i+1=>more (met val i) (val i)
theorem BP(val:Nat->List K):∀i,(met val i).length<=i
 | 0=>eA _
 |i+1=>by
  have:=BP val i;show (more (met val i) (val i)).length<=i+1;unfold more;split
  . lia
  . simp;lia
theorem oh{k:List K}{b:Addr}(x:IsTupleKey knd s.heap k b)(hm:Moved wr G s s')(hno:∀b∈wr,∀k,¬ IsTupleKey knd s.heap k b):IsTupleKey knd s'.heap k b:=by
 have hb:b∉wr:=λh=>hno b h k x
 obtain⟨o,items,m,ho,rest⟩:=x;exact⟨o,items,m,hm.heap b o hb ho,rest⟩
theorem lI{a:Addr}{ks:List (List K)}(x:dj knd B s.heap a ks)(hm:Moved wr G s s')(ha:a∉wr)(hno:∀b∈wr,∀k,¬ IsTupleKey knd s.heap k b):dj knd B s'.heap a ks:=by
 obtain⟨o,es,ep,t,ho,S,ld,nd,l,pm,hl,sh⟩:=x;refine⟨o,es,ep,t,hm.heap a o ha ho,S,ld,nd,l,pm,hl,λi k e hi he=>?_⟩
 obtain⟨b,hb,e1,e2⟩:=sh i k e hi he;exact⟨b,hb,e1,oh e2 hm hno⟩
theorem BR{a b:Addr}{k:List K}{ks:List (List K)}{h h':Heap}(x:dj knd B h a ks)(y:IsTupleKey knd h k b)(sb:Heap.SameBut a h h'):IsTupleKey knd h' k b:=by
 obtain⟨o,es,ep,t,ho,S,_⟩:=x;obtain⟨c,_,e,z⟩:=d8.keeps (knd:=knd) (B:=λ_ _=>True) ⟨b,trivial,rfl,y⟩ ho S.data sb
 have:Value.ref b=.ref c:=congrArg Prod.snd e;injection this with this;exact this▸z
theorem yj(W:WalksS prog w A.in1 I fp wr G n P St)(S:Addr)(hSf:S∉fp)(hu:A.in1.units<cLine)(hint:∀k v,knd.is k v=true->hashByValue 7 v=pure true)
  (val:Nat->List K) (ad:Nat->Addr) (hval:∀i v,P i v->v=.ref (ad i)) (hB:∀i,i<n->B (val i) (ad i)) (hno:∀i s,St i s->∀b∈wr,∀k,¬ IsTupleKey knd s.heap k b) (hb:n<1000) :
  ∀(k i:Nat) (s:Shared),n - i=k->i<=n->St i s->(∀j,j<n->IsTupleKey knd s.heap (val j) (ad j))->dj knd B s.heap S (met val i)->
   (∀s',Moved (S::wr) G s s'->dj knd B s'.heap S (met val n)->R (.ok (.ret .none)) s')->
   codeAny (model prog w) A (.builtin "set.update.loop" ⟨[.ref S,.ref I],[]⟩) R s:=by
 have Ys:S∉wr:=λh=>hSf (W.sub _ h)
 have hsub:∀b∈wr,b∈S::wr:=λb hb=>b0 _ hb
 intro k
 induction k with
 |zero=>
  intro i s hk hi dH _ hS hR;obtain rfl:i=n:=by lia
  refine x0 F.entry_set_update_loop ?_;rw[AD AM _];refine aS (W.done s _ _ dH λs' hm=>?_)
  exact bP (hR s' (hm.mono hsub) (lI hS hm Ys (hno _ s dH)))
 |succ k ih=>
  intro i s hk hi dH hit hS hR;have iZ:i<n:=by lia
  refine x0 F.entry_set_update_loop ?_;rw[AD AM _];refine aS (W.item i s _ _ iZ dH λv s' hP Sq hm=>?_)
  obtain rfl:=hval i v hP;have hS':=lI hS hm Ys (hno i s dH);have uA:∀j,j<n->IsTupleKey knd s'.heap (val j) (ad j):=λj hj=>oh (hit j hj) hm (hno i s dH)
  refine aS (i7 ?_);refine pZ hu hS' (uA i iZ) (hB i iZ) hint (by have:=BP val i;lia) (λhin=>?_) (λhin h' sb WW=>?_)
  .
   have WX:met val (i+1)=met val i:=fN hin;refine bP ⟨CH AM _,ih (i+1) _ ⋯ iZ (W.frame _ s' s'.heap _ Sq ⋯ λb _ o e=>e) uA (WX▸hS') λs'' Ni Nj=>?_⟩
   exact hR s'' (Moved.trans W.gtrans ((hm.mono hsub).then_heap ⋯ λb o hb e=>e) Ni) Nj
  .
   have WX:met val (i+1)=met val i++[val i]:=fI hin;refine bP ⟨CH AM _,ih (i+1) _ ⋯ iZ (W.frame _ s' h' _ Sq ⋯ λb hb o e=>?_) (λj hj=>BR hS' (uA j hj) sb) (WX▸WW) λs'' Ni Nj=>?_⟩
   .
    rw[sb.2 b (λh:b=S=>hSf (h▸hb))]
    exact e
   .
    refine hR s'' (Moved.trans W.gtrans ((hm.mono hsub).then_heap ⋯ λb o hb e=>?_) Ni) Nj
    rw[sb.2 b (λh:b=S=>hb (h▸dC))]
    exact e
end
end Sb
namespace Sb
open PySem PyProof.Rows
section
variable{prog:Program}{w:World}{A:Around}{E:Value->Shared->Prop}{s:Shared}{K:Type} [DecidableEq K] {knd:KeyKind prog w K}{B:List K->Addr->Prop}
theorem ym{h:Heap}{a:Addr}{ks:List (List K)}(x:dj knd B h a ks)(o:Obj):dj knd B (h.push o) a ks:=by
 obtain⟨o',es,ep,t,ho,S,ld,nd,l,pm,hl,sh⟩:=x;refine⟨o',es,ep,t,a9 _ ho,S,ld,nd,l,pm,hl,λi k e hi he=>?_⟩
 obtain⟨b,hB,e1,ob,its,m,hb,rest⟩:=sh i k e hi he;exact⟨b,hB,e1,ob,its,m,a9 _ hb,rest⟩
theorem rX{h:Heap}{b:Addr}{k:List K}(x:IsTupleKey knd h k b)(o:Obj):IsTupleKey knd (h.push o) k b:=by obtain⟨ob,its,m,hb,rest⟩:=x;exact⟨ob,its,m,a9 _ hb,rest⟩
theorem Ho{h:Heap}{I ax:Addr}{i:Nat}(x:h.IsTupleIter I ax i)(k:List K) : ¬ IsTupleKey knd h k I:=by rintro⟨o,its,m,ho,hc,_⟩;obtain⟨o',ho',hc',_⟩:=x;obtain rfl:o=o':=l6 (ho.symm.trans ho');rw[hc]at hc';exact absurd hc' ⋯
theorem BV{S l:Addr}{cI:List Addr}{val:Nat->List K}{Q:Value->Shared->Prop}(hh:A.in1.handled=none)(hu:A.in1.units<cLine)(hint:∀k v,knd.is k v=true->hashByValue 7 v=pure true)
  (hl:s.heap.IsTuple l (cI.map Value.ref).toArray) (hS:dj knd B s.heap S []) (hit:∀j,j<cI.length->IsTupleKey knd s.heap (val j) (cI.getD j 0)) (hB:∀j,j<cI.length->B (val j) (cI.getD j 0)) (hn:cI.length<1000)
  (q:∀s',Moved [S,s⁻¹] (λa b=>b=a) s s'->dj knd B s'.heap S (met val cI.length)->Q .none s') :
  wpAny (model prog w) A (runValue (.builtin "set.update.loop" ⟨[.ref S,.ref s⁻¹],[]⟩)) Q E { s with heap:=s.heap.push { cls:=.type "tuple_iterator",data:=.fields #[.ref l,.int 0 0]}}:=by
 refine wpAny_runValue ?_;have hz:(cI.map Value.ref).toArray.size=cI.length:=by simp
 have hlS:l<s⁻¹:=by obtain⟨o,ho,_⟩:=hl;exact eP ho
 have Z2:S<s⁻¹:=by obtain⟨o,es,ep,t,ho,_⟩:=hS;exact eP ho
 have gG:S≠l:=by rintro rfl;obtain⟨o,es,ep,t,ho,ST,_⟩:=hS;obtain⟨o',ho',_,m,hd'⟩:=hl;obtain rfl:o=o':=l6 (ho.symm.trans ho');have:=ST.data;rw[hd']at this;exact nomatch this
 refine yj (knd:=knd) (B:=B) (Walks.tuple hh s⁻¹ l (kA hlS) (cI.map Value.ref).toArray).toS S ?_ hu hint val (λj=>cI.getD j 0) (λi v hv=>?_) (λi hi=>hB i (by rw[hz]at hi;exact hi)) (λi s' st b hb k=>?_) (by rw[hz];exact hn) _ 0 _ rfl (nV _) ⟨⟨_,eC _ rfl,rfl,rfl⟩,?_⟩ (λj hj=>rX (hit j (by rw[hz]at hj;exact hj)) _) (ym hS _) λs' hm hS'=>?_
 . simp only[dS,i8,wS,not_or];exact⟨kA Z2,gG⟩
 .
  have hv':(cI.map Value.ref)[i]?=some v:=by simpa using hv
  rw[mP]at hv';cases h:cI[i]? with
  |none=>rw[h]at hv';cases hv'
  |some c=>rw[h]at hv';cases hv';show Value.ref c=.ref (cI.getD i 0);rw[hU,h];rfl
 . obtain rfl:=gN.mp hb;exact Ho st.1 k
 . obtain⟨o,ho,rest⟩:=hl;exact⟨o,a9 _ ho,rest⟩
 . rw[hz]at hS';exact q s' ⟨λb o hb e=>hm.heap b o hb (a9 _ e),hm.gens,hm.drawn,hm.os,hm.toks⟩ hS'
end
end Sb
namespace Sb
open PySem PyProof.Rows
section
variable{prog:Program}{w:World}{A:Around}{E:Value->Shared->Prop}{s:Shared}{K:Type} [DecidableEq K] {knd:KeyKind prog w K}{B:List K->Addr->Prop}
theorem BW{id:String}{S l:Addr}{cI:List Addr}{val:Nat->List K}{Q:Unit->Shared->Prop}(hh:A.in1.handled=none)(hu:A.in1.units<cLine)(hint:∀k v,knd.is k v=true->hashByValue 7 v=pure true)
  (hl:s.heap.IsTuple l (cI.map Value.ref).toArray) (hS:dj knd B s.heap S []) (hit:∀j,j<cI.length->IsTupleKey knd s.heap (val j) (cI.getD j 0)) (hB:∀j,j<cI.length->B (val j) (cI.getD j 0)) (hn:cI.length<1000)
  (q:∀s',Moved [S,s⁻¹] (λa b=>b=a) s s'->dj knd B s'.heap S (met val cI.length)->Q () s') :
  wpAny (model prog w) A (Builtin.Frozenset.updateFrom id S (.ref l)) Q E s:=by
 have hT:s.TypeIs (.ref l) "tuple" :=hl.typeIs;unfold Builtin.Frozenset.updateFrom Builtin.Frozenset.isAnySet;refine aS (aS (A8 hT PySem.F.sub_tuple_set ?_));refine A8 hT PySem.F.sub_tuple_frozenset ?_;simp only[fA,↓reduceIte];refine aS (AJ hT ?_);rw[fI ⋯];refine aS (BC hl ?_);refine aS (BV hh hu hint hl hS hit hB hn λs' hm hS'=>?_)
 exact bP (q s' hm hS')
theorem BX(a:Value){Q₁:Value->Shared->Prop}
  (h:∀led:Bool,(w.params.followText "set-order"=false->led=true)->Q₁ (.ref s⁻¹) { s with heap:=s.heap.push { cls:=.type "set",dict:=none,data:=.set #[] 0 (.fresh 0 0 led)}}) :
  codeAny (model prog w) A (.call (.builtin "set.__new__") ⟨[.type "set",a],[]⟩) (wants Q₁ E) s:=by
 refine codeAny_of_tree ?_;refine aS (wpAny_of_eq (F.newCall_set_1 a) (bP ⟨CH F.plain_set_new _,x0 F.entry_set_new ?_⟩));rw[AD F.plain_set_new _];unfold Builtin.«set.__new__» Builtin.Frozenset.newClass;have hsub:=sub_set_self;obtain⟨hp,g,d,tk,os⟩:=s;dsimp only
 wp_walk
 refine AQ (bP ?_);dsimp only;simp only[newObj];refine aS (wpAny_alloc (bP ?_));refine bP (h _ λhw=>?_)
 show (!w.params.followText "set-order")=true;rw[hw];rfl
end
end Sb
namespace Sb
open PySem PyProof.Rows
section
variable{prog:Program}{w:World}{A:Around}{E:Value->Shared->Prop}{s:Shared}{K:Type} [DecidableEq K] {knd:KeyKind prog w K}{B:List K->Addr->Prop}
abbrev uQ (led:Bool):Obj:={ cls:=.type "set",dict:=none,data:=.set #[] 0 (.fresh 0 0 led)}
theorem uR{h:Heap}{a:Addr}{led:Bool}(ho:h.get? a=some (uQ led))(hw:w.params.followText "set-order"=false->led=true):dj knd B h a []:=by
 refine⟨_,#[],0,_,ho,⟨⟨rfl,rfl,rfl⟩,rfl,yh _ _,dC,?_,rfl⟩,hw,wT,[],.nil,rfl,λi k e hi=>?_⟩
 . show 0 * 5<7 * 3;decide
 . cases hi
def Done(knd:KeyKind prog w K)(B:List K->Addr->Prop)(s:Shared)(ks:List (List K))(s':Shared):Prop:=
 dj knd B s'.heap s⁻¹ ks/\(∀b o,b<s⁻¹->s.heap.get? b=some o->s'.heap.get? b=some o)/\s'.gens=s.gens/\s'.drawn=s.drawn/\s'.os=s.os/\s.toks<=s'.toks
set_option maxHeartbeats 3200000 in
theorem lJ{l:Addr}{cI:List Addr}{val:Nat->List K}{Q:Value->Shared->Prop}
  (hh:A.handled=none) (hu:A.in1.in1.in1.units<cLine) (hint:∀k v,knd.is k v=true->hashByValue 7 v=pure true)
  (hl:s.heap.IsTuple l (cI.map Value.ref).toArray) (hit:∀j,j<cI.length->IsTupleKey knd s.heap (val j) (cI.getD j 0)) (hB:∀j,j<cI.length->B (val j) (cI.getD j 0)) (hn:cI.length<1000)
  (q:∀s',Done knd B s (met val cI.length) s'->Q (.ref s⁻¹) s') :
  wpAny (model prog w) A (call (.type "set") [.ref l]) Q E s:=by
 obtain⟨c,tl,Z3⟩:=F.called_set.mro;have hmade:=F.called_set.made;have hsub:=F.called_set.sub;refine wpAny_call (codeAny_of_tree ?_);refine bP ⟨Code.quiet_builtin _ (by decide +kernel),x0 F.entry_type_call ?_⟩
 rw[Around.under_plain (weight_type_call_type "set" [.ref l] []) rfl];have h1:=F.called_set.notType;have h2:=F.called_set.canCreate;have hct:=F.typeCall_set_1 (.ref l)
 repeat (any_goals (first |assumption |wp_step))
 refine C3 (BX (.ref l) (E:=E) (Q₁:=λobj s₁=>∃led:Bool,(w.params.followText "set-order"=false->led=true)/\obj=.ref s⁻¹/\s₁={ s with heap:=s.heap.push (uQ led)}) λled hw=>⟨led,hw,rfl,rfl⟩) λr s₁ hr=>?_
 cases r with
 |error e=>exact hr
 |ok fl=>
  cases fl with
  |ret obj=>
   obtain⟨led,hw,rfl,rfl⟩:=hr;have hS:(s.heap.push (uQ led)).get? s⁻¹=some (uQ led):=eC _ rfl;have hT:Shared.TypeIs { s with heap:=s.heap.push (uQ led)} (.ref s⁻¹) "set" :=⟨_,hS,rfl⟩;have hli:=F.called_set.init.lookup;have hbi:=F.called_set.init.bind (.ref s⁻¹)
   repeat (any_goals (first |assumption |wp_step))
   refine C3 (codeAny_call_builtin (R:=wants (λr s₂=>r=.none/\Done knd B s (met val cI.length) s₂) E) F.called_set.init.plain F.entry_set_init (check_set_init_1 hT ?_)) λr₂ s₂ WY=>?_
   .
    have hl1:(s.heap.push (uQ led)).IsTuple l (cI.map Value.ref).toArray:=by obtain⟨o,ho,rest⟩:=hl;exact⟨o,a9 _ ho,rest⟩
    have Z4:A.in1.in1.in1.handled=none:=by simp[hh]
    have hS':(s.heap.push { cls:=.type "set",dict:=none,data:=.set #[] 0 (.fresh 0 0 led)}).get? s⁻¹=some { cls:=.type "set",dict:=none,data:=.set #[] 0 (.fresh 0 0 led)}:=hS;unfold Builtin.«set.__init__» noKeywords;generalize Z5:Builtin.Frozenset.updateFrom=UF
    wp_walk
    subst Z5;refine BW (knd:=knd) (B:=B) Z4 hu hint hl1 (uR hS hw) (λj hj=>rX (hit j hj) _) hB hn λs' hm WW=>?_
    refine bP ⟨rfl,WW,λb o hb e=>hm.heap b o ?_ (a9 _ e),hm.gens,hm.drawn,hm.os,hm.toks⟩
    have hb2:b≠(s.heap.push (uQ led)).objs.size:=by rw[vS];exact kA (Nat.lt_succ_of_lt hb)
    simp only[dS,i8,wS,not_or];exact⟨kA hb,hb2⟩
   .
    cases r₂ with
    |error e=>exact WY
    |ok Z6=>
     cases Z6 with
     |ret r=>
      obtain⟨rfl,hD⟩:=WY
      repeat (any_goals (first |assumption |wp_step))
      exact q _ hD
     |_=>exact WY.elim
  |_=>exact hr.elim
end
end Sb
namespace Sb
open PySem
section
variable{prog:Program}{w:World}{A:Around}{E:Value->Shared->Prop}{s:Shared}
def cU(t:SetTable):Nat->Nat
 | 0=>0
 |i+1=>t.place.getD i 0+1
theorem below_at{t:SetTable}{hs:Nat->Int}{n:Nat}(T:Tab t hs n){i:Nat}(hi:i<=n):SetTable.below t.place (cU t i)=i:=by
 obtain⟨b1,b2,b3⟩:=iO T.uG (cU t i);have hz:=T.sz;rcases AI (SetTable.below t.place (cU t i)) i with h |h |h
 .
  cases i with
  |zero=>lia
  |succ m=>have:=b3 m ⋯ ⋯;simp only[cU]at this;lia
 . exact h
 .
  have:=b2 i h;cases i with
  |zero=>simp only[cU]at this;lia
  |succ m=>have r:=T.uG m (m+1) ⋯ ⋯;simp only[cU]at this;lia
theorem v5(a:Addr)(slot given U1:Nat):setNext a slot given U1=(do
  let (es,epoch,t) <- setState a
  if <- setsByText then
   if epoch != U1 then unsupported "set_iterator.__next__:elements-changed"
   return ((<- setWalk a)[given]?).map λe=>(e.2,slot)
  if !t.plain&&es.size > 1 then unsupported "set_iterator.__next__:the-table-is-plain-no-more"
  (do if !t.led&&!es.isEmpty then unsupported "set:maker-not-led":Sem Unit)
  let i:=SetTable.below t.place slot
  return match es[i]?,t.place[i]? with
   |some (_,x),some j=>some (x,j+1)
   |_,_=>none):=rfl
theorem BZ{a:Addr}{o:Obj}{es:Array (Int×Value)}{ep U1:Nat}{t:SetTable}{i g:Nat}{Q:Option (Value×Nat)->Shared->Prop}(hw:w.params.followText "set-order"=false)
  (ho:s.heap.get? a=some o) (S:SetT o es ep t) (ld:t.led=true) (hi:i<=es.size) (q:Q (es[i]?.map λe=>(e.2,cU t (i+1))) s):wpAny (model prog w) A (setNext a (cU t i) g U1) Q E s:=by
 rw[v5];refine aS (l9 ho S.data S.fits ?_);dsimp only;unfold setsByText;refine aS (aS (AQ (bP ?_)));dsimp only[model];rw[hw,S.plain,ld];simp only[AA,AR,fA,↓reduceIte];rw[below_at S.tab hi];have e:(match es[i]?,t.place[i]? with
   |some (_,x),some j=>some (x,j+1)
   |_,_=>none)=es[i]?.map λe=>(e.2,cU t (i+1)):=by
  by_cases h:i<es.size
  .
   have h2:i<t.place.size:=by rw[S.tab.sz];exact h
   rw[l4 h,l4 h2];simp[cU,Array.getD,h2]
  . rw[Array.getElem?_eq_none ⋯];rfl
 first
  |exact aS (bP (bP (by rw[e];exact q)))
  |exact bP (by rw[e];exact q)
theorem yp{a:Addr}{o:Obj}{es:Array (Int×Value)}{ep:Nat}{t:SetTable}{i g:Nat}{Q:Option (Value×Nat)->Shared->Prop}(hw:w.params.followText "set-order"=true)
  (ho:s.heap.get? a=some o) (S:SetT o es ep t) (q:Q ((pickOrder (w.params.setOrder a ep) es)[g]?.map λe=>(e.2,i)) s):wpAny (model prog w) A (setNext a i g ep) Q E s:=by
 rw[v5];refine aS (l9 ho S.data S.fits ?_);dsimp only;unfold setsByText;refine aS (aS (AQ (bP ?_)));dsimp only[model];rw[hw];simp only[↓reduceIte,bne_self_eq_false,fA];rw[Hl];refine aS (aS (l9 ho S.data S.fits ?_));dsimp only;unfold setsByText;refine aS (aS (AQ (bP ?_)));dsimp only[model];rw[hw];simp only[↓reduceIte];exact aS (AQ (bP (bP q)))
end
end Sb
namespace Sb
open PySem
theorem Ca:Manifest.owners.lookup (String.ofList ['r','o','t','a','r','e','t','i','_','t','e','s'].reverse)=some Manifest.sig_set_iterator:=by kernel_rfl
theorem bF:Slot "set_iterator" "__next__" "set_iterator.__next__" :=
 .of (owner:= "set_iterator") (n:= "__next__") (by rw[typeLookup_type,builtinLookup_eq_fast];kernel_rfl) (by decide +kernel) (by decide +kernel) (by decide +kernel)
  (by first |exact .inl (by decide +kernel) |exact .inr (by decide +kernel)) (by rw[isSubtype_type];kernel_rfl)
theorem gK:entryFor table "set_iterator.__next__"=some Builtin.«set_iterator.__next__»:=entryFor_of_tree (by kernel_rfl)
theorem iQ(a:Value):argsOk "set_iterator.__next__" ⟨[a],[]⟩:=by unfold argsOk;rw[signature?_of (id:= "set_iterator.__next__") (n:=['_','_','t','x','e','n','_','_']) (o:=['r','o','t','a','r','e','t','i','_','t','e','s']) (by kernel_rfl) Ca];kernel_rfl
theorem iR:Slot "set_iterator" "__iter__" "set_iterator.__iter__" :=
 .of (owner:= "set_iterator") (n:= "__iter__") (by rw[typeLookup_type,builtinLookup_eq_fast];kernel_rfl) (by decide +kernel) (by decide +kernel) (by decide +kernel)
  (by first |exact .inl (by decide +kernel) |exact .inr (by decide +kernel)) (by rw[isSubtype_type];kernel_rfl)
theorem mU:entryFor table "set_iterator.__iter__"=some Builtin.«dict_keyiterator.__iter__»:=
 entryFor_alias (id':= "dict_keyiterator.__iter__") (by kernel_rfl) (by first |rfl |decide +kernel | (unfold String.splitOn;simp +decide [String.splitOnAux])) (by decide +kernel) (by kernel_rfl)
theorem p7(a:Value):argsOk "set_iterator.__iter__" ⟨[a],[]⟩:=by unfold argsOk;rw[signature?_of (id:= "set_iterator.__iter__") (n:=['_','_','r','e','t','i','_','_']) (o:=['r','o','t','a','r','e','t','i','_','t','e','s']) (by kernel_rfl) Ca];kernel_rfl
theorem lK:entryFor table "set.__iter__"=some Builtin.«frozenset.__iter__»:=
 entryFor_alias (id':= "frozenset.__iter__") (by kernel_rfl) (by first |rfl |decide +kernel | (unfold String.splitOn;simp +decide [String.splitOnAux])) (by decide +kernel) (by kernel_rfl)
section
variable{prog:Program}{w:World}{A:Around}{E:Value->Shared->Prop}{s:Shared}
def uS(h:Heap)(I a:Addr)(sl i n ep:Nat):Prop:=
 ∃o,h.get? I=some o/\o.cls=.type "set_iterator" /\o.data=.fields #[.int sl 0,.int i 0,.ref a,.int n 0,.int ep 0]
theorem uS.typeIs{I a:Addr}{sl i n ep:Nat}(x:uS s.heap I a sl i n ep):s.TypeIs (.ref I) "set_iterator" :=let ⟨o,ho,hc,_⟩:=x;⟨o,ho,hc⟩
def eX(w:World)(a:Addr)(ep:Nat)(es:Array (Int×Value)):Array (Int×Value):=if w.params.followText "set-order"=true then pickOrder (w.params.setOrder a ep) es else es
def fL(w:World)(t:SetTable)(i:Nat):Nat:=if w.params.followText "set-order"=true then 0 else cU t i
theorem lM(w:World)(a:Addr)(ep:Nat)(es:Array (Int×Value)):(eX w a ep es).toList.Perm es.toList:=by
 unfold eX;split
 . exact yi _ _
 . exact .refl _
theorem cV(w:World)(a:Addr)(ep:Nat)(es:Array (Int×Value)):(eX w a ep es).size=es.size:=by have:=(lM w a ep es).length_eq;simpa using this
theorem lN{a:Addr}{o:Obj}{es:Array (Int×Value)}{ep:Nat}{t:SetTable}{i:Nat}{Q:Option (Value×Nat)->Shared->Prop}
  (ho:s.heap.get? a=some o) (S:SetT o es ep t) (ld:w.params.followText "set-order"=false->t.led=true) (hi:i<=es.size) (q:Q ((eX w a ep es)[i]?.map λe=>(e.2,fL w t (i+1))) s):wpAny (model prog w) A (setNext a (fL w t i) i ep) Q E s:=by
 unfold eX fL at *;cases hw:w.params.followText "set-order" with
 |true=>
  rw[hw]at q;simp only[↓reduceIte]at q ⊢
  exact yp hw ho S q
 |false=>
  rw[hw]at q;simp only[fA,↓reduceIte]at q ⊢
  exact BZ hw ho S (ld hw) hi q
theorem next_item{I a:Addr}{o:Obj}{es:Array (Int×Value)}{ep:Nat}{t:SetTable}{i:Nat}{e:Int×Value}{Q:Option Value->Shared->Prop}(hit:uS s.heap I a (fL w t i) i es.size ep)
  (hoa:s.heap.get? a=some o) (S:SetT o es ep t) (ld:w.params.followText "set-order"=false->t.led=true) (hx:(eX w a ep es)[i]?=some e)
  (hQ:∀h',uS h' I a (fL w t (i+1)) (i+1) es.size ep->Heap.SameBut I s.heap h'->Q (some e.2) { s with heap:=h'}) :
  wpAny (model prog w) A (pyNext (.ref I)) Q E s:=by
 obtain⟨oi,Hi,hc,hd⟩:=id hit;have iZ:i<es.size:=by rw[<- cV w a ep es];exact (yY.mp hx).1
 unfold pyNext;refine aS (BE (mM (name:=Str.ofString "__next__") hit.typeIs bF
  (mE bF hit.typeIs gK ?_ (iQ _))))
 unfold Builtin.«set_iterator.__next__»;refine aS (bP ?_);refine aS (wpAny_fieldsOf Hi hd ?_);dsimp only;unfold setEntries;refine aS (aS (l9 hoa S.data S.fits (bP ?_)));dsimp only;rw[fI ⋯];simp only[A5];refine aS (lN hoa S ld (C2 iZ) ?_);rw[hx];dsimp only[Option.map];refine aS (B4 Hi hd ⋯ ?_);have yT:=oI (Obj.mapFields (·.setIfInBounds 0 (rawInt (fL w t (i+1):Nat)))) Hi (Obj.isFreed_of_fields (Ap hd _));have hd1:=Ap hd (·.setIfInBounds 0 (rawInt (fL w t (i+1):Nat)));refine aS (B4 yT hd1 ⋯ (bP ⟨_,rfl,bP (hQ _ ?_ ((u8 ..).trans (u8 ..)))⟩));exact⟨_,oI _ yT (Obj.isFreed_of_fields (Ap hd1 _)),(Obj.cls_mapFields ..).trans ((Obj.cls_mapFields ..).trans hc),by
  rw[Ap hd1];simp[rawInt]⟩
theorem next_end{I a:Addr}{o:Obj}{es:Array (Int×Value)}{ep:Nat}{t:SetTable}{Q:Option Value->Shared->Prop}(hh:A.handled=none)(hit:uS s.heap I a (fL w t es.size) es.size es.size ep)
  (hoa:s.heap.get? a=some o) (S:SetT o es ep t) (ld:w.params.followText "set-order"=false->t.led=true)
  (hQ:∀h',Heap.ExtBut I s.heap h'->Q none { s with heap:=h'}) :
  wpAny (model prog w) A (pyNext (.ref I)) Q E s:=by
 obtain⟨oi,Hi,hc,hd⟩:=id hit;have hx:(eX w a ep es)[es.size]?=none:=by rw[<- cV w a ep es];simp
 unfold pyNext;refine aS (BE (mM (name:=Str.ofString "__next__") hit.typeIs bF
  (mE bF hit.typeIs gK ?_ (iQ _))))
 unfold Builtin.«set_iterator.__next__»;refine aS (bP ?_);refine aS (wpAny_fieldsOf Hi hd ?_);dsimp only;unfold setEntries;refine aS (aS (l9 hoa S.data S.fits (bP ?_)));dsimp only;rw[fI ⋯];simp only[A5];refine aS (lN hoa S ld (eA _) ?_);rw[hx];dsimp only[Option.map];refine aS (B4 Hi hd ⋯ ?_);show wpAny _ _ (newExc (.type "StopIteration") [] >>= _) _ _ _;refine aS ?_;simp only[newExc,newTuple];refine aS (lL ?_ (by size_fits))
 refine aS (m:=firstArgMember _ _) (wpAny_of_eq (a:=Value.none) (by first |rfl | (simp only[firstArgMember];rfl)) ?_)
 refine lL ?_ (by size_fits)
 simp only[raiseNew];refine aS (wpAny_handled ?_)
 first |rw[show A.in1.handled=none from hh] |rw[hh]
 refine aS (bP (wpAny_throw ?_));refine aS (A8 (T:= "StopIteration") (b:=true) ⟨_,eC _ rfl,rfl⟩ isSubtype_stop ?_);exact bP (hQ _ (((u8 ..).extBut.push _).push _))
theorem yq{I a:Addr}{sl i n ep:Nat}{Q:Value->Shared->Prop}(hit:uS s.heap I a sl i n ep)(h:Q (.ref I) s):wpAny (model prog w) A (pyIter (.ref I)) Q E s:=by refine wpAny_pyIter_slot hit.typeIs iR (mE iR hit.typeIs mU ?_ (p7 _));show wpAny _ _ (ret (.ref I)) _ _ s;exact bP ⟨_,rfl, "set_iterator",_,hit.typeIs,bF.lookup,h⟩
theorem yr{o:Obj}{es:Array (Int×Value)}{ep:Nat}{t:SetTable}(hh:A.handled=none)(I a:Addr)(gG:a≠I)(S:SetT o es ep t)(ld:w.params.followText "set-order"=false->t.led=true) :
  Walks prog w A I [I,a] [I] es.size (λi v=>∃e,(eX w a ep es)[i]?=some e/\e.2=v) (λi h=>uS h I a (fL w t i) i es.size ep/\h.get? a=some o) where
 sub:=λb hb=>by simp at hb;simp[hb]
 frame:=λ_ _ _ st hk=>⟨let ⟨o,ho,r⟩:=st.1;⟨o,hk I ⋯ o ho,r⟩,hk a ⋯ _ st.2⟩
 item:=λi s Q E hi st hQ=>by
  have hi':i<(eX w a ep es).size:=by rw[cV];exact hi
  refine next_item st.1 st.2 S ld (l4 hi') λh' uA hs'=>?_
  exact hQ _ h' s.toks ⟨_,l4 hi',rfl⟩ ⟨uA,hs'.extBut a o gG st.2⟩ λb o hb e=>hs'.extBut b o (λh=>hb (by simp[h])) e
 done:=λs Q E st hQ=>next_end hh st.1 st.2 S ld λh' he'=>hQ h' s.toks λb o hb e=>he' b o (λh=>hb (by simp[h])) e
 self:=λ_ _ _ _ st hQ=>yq st.1 hQ
theorem Cb(a:Addr):setDrawn a=(do
  let (es,_,t) <- setState a
  let Nk <- setsByText
  return !Nk&&(!t.plain&&es.size > 1)):=rfl
theorem Cd{a:Addr}{o:Obj}{es:Array (Int×Value)}{ep:Nat}{t:SetTable}{Q:Value->Shared->Prop}(ho:s.heap.get? a=some o)(S:SetT o es ep t)
  (hQ:Q (.ref s⁻¹) { s with heap:=s.heap.push { cls:=.type "set_iterator",data:=.fields #[.int 0 0,.int 0 0,.ref a,.int es.size 0,.int ep 0]}}) :
  wpAny (model prog w) A (pyIter (.ref a)) Q E s:=by
 have hT:s.TypeIs (.ref a) "set" :=⟨_,ho,S.ex.1⟩;refine wpAny_pyIter_slot hT F.slot_set_iter (mE F.slot_set_iter hT lK ?_ (F.args_set_iter_1 _));unfold Builtin.«frozenset.__iter__»;refine aS (bP ?_);rw[Cb];unfold Builtin.Frozenset.sizeOf setEntries setEpoch setsByText;refine aS (aS (aS (l9 ho S.data S.fits (bP (bP ?_)))));dsimp only;refine aS (aS (l9 ho S.data S.fits (aS (aS (AQ (bP (bP ?_)))))));dsimp only;rw[S.plain];simp only[AA,AR,AS,fA,↓reduceIte];refine aS (bP ?_);refine aS (aS (l9 ho S.data S.fits (bP ?_)));refine aS (lL (bP ⟨_,rfl, "set_iterator",_,⟨_,eC _ rfl,rfl⟩,bF.lookup,?_⟩));exact hQ
end
end Sb
namespace Sb
open PySem
section
variable{prog:Program}{w:World}{A:Around}{E:Value->Shared->Prop}{s:Shared}
theorem Ce{a:Addr}{Q:Bool->Shared->Prop}(hT:s.TypeIs (.ref a) "set")(h:Q false s):wpAny (model prog w) A (Builtin.List.listLengthHint (.ref a)) Q E s:=by
 unfold Builtin.List.listLengthHint;refine aS (wpAny_specialOf hT F.slot_set_len.lookup ?_);have e:splitId "set.__len__"=some ("set", "__len__"):=by decide +kernel
 dsimp only;rw[e];dsimp only;refine aS (A8 hT sub_set_self ?_);simp only[AA,fA,↓reduceIte];rw[fN (by decide +kernel)]
 exact aS (AJ hT (bP h))
theorem rY{a:Addr}{o:Obj}{es:Array (Int×Value)}{ep:Nat}{t:SetTable}{Q:List Value->Shared->Prop}(hh:A.in1.handled=none)(ho:s.heap.get? a=some o)(S:SetT o es ep t)(ld:w.params.followText "set-order"=false->t.led=true)(hn:es.size<=sizeLine)
  (hQ:∀s',Moved [] (λa b=>b=a) s s'->Q ((eX w a ep es).toList.map (·.2)) s'):wpAny (model prog w) A (collect (.ref a)) Q E s:=by
 have iZ:a<s⁻¹:=eP ho;have Z7:s⁻¹≠a:=B5 iZ;unfold collect;refine aS (wpAny_runValue (x0 F.entry_proto_collect ?_));rw[AD F.plain_proto_collect _];show wpAny _ A.in1 (newList [] >>= λl=>again (.builtin "list.__iadd__" ⟨[l,.ref a],[]⟩)) _ _ s
 refine aS (lL ?_);refine bP ⟨CH F.plain_list_iadd _,x0 F.entry_list_iadd ?_⟩;rw[AD F.plain_list_iadd _];have yT:(s.heap.push { cls:=.type "list",data:=.seq ([]:List Value).toArray}).get? a=some o:=a9 _ ho;show wpAny _ A.in1 (Builtin.List.listExtendWith (.ref s⁻¹) (.ref a) (.ref s⁻¹)) _ _ _;unfold Builtin.List.listExtendWith;refine aS (AJ (T:= "set") ⟨_,yT,S.ex.1⟩ ?_);have h1:Builtin.List.listSameRef (.ref s⁻¹) (.ref a)=false:=by simp[Builtin.List.listSameRef,Z7]
 have h2:(Value.type "set" == Value.type "list")=false:=by decide
 have h3:(Value.type "set" == Value.type "tuple")=false:=by decide
 simp only[h1,h2,h3,Bool.or_false,fA,CB];refine aS (Cd yT S ?_);have hz:(s.heap.push { cls:=.type "list",data:=.seq ([]:List Value).toArray}).objs.size=s⁻¹+1:=vS ..;rw[hz];refine aS (i7 ?_);refine Ce ⟨_,a9 _ yT,S.ex.1⟩ ?_;rw[fN (by decide +kernel)]
 show wpAny _ A.in1 (rule "list.extend.makes-room" >>= λ_=>Builtin.List.listTouch (.ref s⁻¹) >>= λ_=>
  again (.builtin "list.extend.loop" ⟨[.ref s⁻¹,.ref (s⁻¹+1),.ref s⁻¹],[]⟩)) _ _ _
 refine aS (C5 ?_);generalize hH:((s.heap.push { cls:=.type "list",data:=.seq ([]:List Value).toArray}).push { cls:=.type "set_iterator",data:=.fields #[.int 0 0,.int 0 0,.ref a,.int es.size 0,.int ep 0]})=h0;have Yt:h0.get? s⁻¹=some { cls:=.type "list",data:=.seq ([]:List Value).toArray}:=by rw[<- hH];exact a9 _ (eC _ rfl)
 have Z8:h0.get? (s⁻¹+1)=some { cls:=.type "set_iterator",data:=.fields #[.int 0 0,.int 0 0,.ref a,.int es.size 0,.int ep 0]}:=by rw[<- hH,<- hz];exact eC _ rfl
 have old:∀b o,s.heap.get? b=some o->h0.get? b=some o:=λb o e=>by
  rw[<- hH];exact a9 _ (a9 _ e)
 refine aS ?_;show wpAny _ A.in1 (updateSeq s⁻¹ (·.push .none) >>= λ_=>updateSeq s⁻¹ (·.pop)) _ _ _
 refine aS (wpAny_updateSeq Yt rfl ?_);have Yu:=oI (Obj.mapSeq (·.push Value.none)) Yt rfl;refine wpAny_updateSeq Yu rfl ?_;have Z9:=oI (Obj.mapSeq (·.pop)) Yu rfl;have W0:∀b o,b≠s⁻¹->h0.get? b=some o->
   ((h0.update s⁻¹ (Obj.mapSeq (·.push Value.none))).update s⁻¹ (Obj.mapSeq (·.pop))).get? b=some o:=
  λb o hb e=>(t7 _ _ (t9 hb)).trans ((t7 _ _ (t9 hb)).trans e)
 have W:=(yr (prog:=prog) (w:=w) (A:=A.in1) hh (s⁻¹+1) a ⋯ S ld).toS;have sl0:fL w t 0=0:=by unfold fL;split <;> rfl
 refine bP ⟨CH F.plain_extend_loop _,codeAny_extend_loopS W hn _ (by simp;lia) _ es.size 0 _ _ _ rfl (nV _) ⟨⟨_,W0 _ _ ⋯ Z8,rfl,by rw[sl0];rfl⟩,W0 _ _ ⋯ (old _ _ ho)⟩ Z9 (ItemsOf.nil _) λs' acc' c' hm hS' hacc=>?_⟩
 show wpAny _ A (load s⁻¹ >>= _) _ _ s';refine aS (wpAny_load hS' ?_);have e:acc'.toList=(eX w a ep es).toList.map (·.2):=by
  obtain⟨z1,z2⟩:=hacc;apply List.ext_getElem?;intro i;by_cases hi:i<acc'.size
  . obtain⟨e,e1,e2⟩:=z2 i acc'[i] (l4 hi);rw[y7,l4 hi,mP,y7,e1,<- e2];rfl
  . rw[oS (by simpa using hi),oS (by rw[gL,h9,cV];lia)]
 refine bP ?_;rw[e];refine hQ s' ⟨λb o _ eb=>hm.heap b o ?_ (W0 b o ?_ (old b o eb)),hm.gens,hm.drawn,hm.os,hm.toks⟩
 . have:=eP eb;simp only[dS,i8,wS,not_or];exact⟨by lia,by lia⟩
 . have:=eP eb;lia
end
end Sb
namespace Sb
open PySem PySem.W PyProof.Rows Ev
theorem yt{α β:Type}{f:α->β}{l1 l:List β}(h:l1.Perm l):∀{pl:List α},pl.map f=l->∃Qf:List α,Qf.Perm pl/\Qf.map f=l1:=by
 induction h with
 |nil=>exact λ{pl} e=>⟨pl,.refl _,e⟩
 |cons x _ ih=>
  intro pl e;cases pl with
  |nil=>cases e
  |cons p pl=>rw[List.map_cons]at e;injection e with e1 e2;obtain⟨Qf,q1,q2⟩:=ih e2;exact⟨p::Qf,q1.cons p,by rw[List.map_cons,q2,e1]⟩
 |swap x y l=>
  intro pl e
  match pl,e with
  | [],e=>cases e
  | [_],e=>cases e
  |p::q::pl,e=>rw[List.map_cons,List.map_cons]at e;injection e with e1 e2;injection e2 with e2 e3;exact⟨q::p::pl,List.Perm.swap ..,by rw[List.map_cons,List.map_cons,e1,e2,e3]⟩
 |trans _ _ ih1 ih2=>intro pl e;obtain⟨p1,q1,q2⟩:=ih2 e;obtain⟨p2,q3,q4⟩:=ih1 q2;exact⟨p2,q3.trans q1,q4⟩
section
variable{prog:Program}{w:World}{A:Around}{E:Value->Shared->Prop}{s:Shared}{B:List Int->Addr->Prop}
theorem yu{v:Value}{vs:List Value}{R:Shared->Prop}{Q:Value->Shared->Prop}(hz:vs.length<=sizeLine)(go:wpAny (model prog w) A.in1 (collect v) (λvs' s'=>vs'=vs/\R s') E s)
  (h:∀s',R s'->wpAny (model prog w) A.in1.in1 (Builtin.«list.sort» ⟨[.ref s'⁻¹],[]⟩) (λf s''=>f=.done (.ret .none)/\Q (.ref s'⁻¹) s'') E { s' with heap:=s'.heap.push (seqObj "list" vs.toArray 0)}) :
  wpAny (model prog w) A (call (.builtin "sorted") [v]) Q E s:=by
 refine A6 kind_sorted plain_sorted entry_sorted (args_sorted1 _) ?_;unfold Builtin.«sorted»;refine aS (m:=checkCount "sorted" 1 1 _) (bP (aS (nK go ?_ λ_ _ z=>z)))
 rintro _ s' ⟨rfl,hr⟩;refine aS (BH ?_ hz);refine aS (i7 (mE slot_list_sort ⟨_,eC _ rfl,rfl⟩ entry_list_sort (nK (h s' hr) (λf s'' hf=>⟨_,hf.1,?_⟩) λ_ _ z=>z) (args_list_sort _)))
 exact bP ⟨_,rfl,hf.2⟩
theorem Cg{ks:List Int}{vs:List Value}(h:ItemsAre (intKind prog w) ks vs):IntsAre vs ks:=by
 induction h with
 |nil=>exact .nil
 |cons h _ ih=>obtain⟨t,rfl⟩:=Value.isInt_shape h;exact .cons _ _ ih
noncomputable def adr(p:List Int×(Int×Value)):Addr:=match p.2.2 with |.ref b=>b |_=>0
theorem rZ{h:Heap}:∀{pl:List (List Int×(Int×Value))},(∀p∈pl,d8 (intKind prog w) B h p.1 p.2)->TupIs h (pl.map λp=>p.2.2) (pl.map (·.1))
 | [],_=>.nil
 |p::pl,hp=>by
  obtain⟨b,_,e,o,its,n,h1,h2,h3,h4⟩:=hp p dC;refine .cons ⟨b,its,congrArg Prod.snd e,⟨o,h1,h2,n,h3⟩,Cg h4⟩ (rZ λq hq=>hp q (b0 _ hq))
theorem r9{a:Addr}{ks:List (List Int)}{Q:Value->Shared->Prop}(hh:A.in1.in1.handled=none)(hS:dj (intKind prog w) B s.heap a ks)(gG:∀k∈ks,k≠[])(h64:ks.length<64)
  (q:∀(ep:Nat) (bs:List Addr) s1 s',Moved [] (λa b=>b=a) s s1->Moved [] (λa b=>b=a) s1 s'->s'.heap.get? s1⁻¹=some (seqObj "list" (bs.map Value.ref).toArray ep)->bs.length=ks.length->(∀i,i<ks.length->B ((bh cE ks).getD i []) (bs.getD i 0))->Q (.ref s1⁻¹) s') :
  wpAny (model prog w) A (call (.builtin "sorted") [.ref a]) Q E s:=by
 obtain⟨o,es,ep,t,ho,S,ld,nd,l,pm,hl,sh⟩:=hS;have hm:((ks.zip l).map (·.2))=l:=by rw[List.map_snd_zip];lia
 have hm1:((ks.zip l).map (·.1))=ks:=by rw[List.map_fst_zip];lia
 obtain⟨pl,p1,p2⟩:=yt ((lM w a ep es).trans pm) hm;have se:∀p∈pl,d8 (intKind prog w) B s.heap p.1 p.2:=λp hp=>by
  obtain⟨i,hi,e⟩:=yA (p1.mem_iff.mp hp);rw[List.getElem_zip]at e;rw[List.length_zip]at hi;have h1:i<ks.length:=by lia
  have h2:i<l.length:=by lia
  rw[<- e];exact sh i _ _ (eM h1) (eM h2)
 have kp:(pl.map (·.1)).Perm ks:=by rw[<- hm1];exact p1.map _
 have Yv:(eX w a ep es).toList.map (·.2)=pl.map λp=>p.2.2:=by rw[<- p2,List.map_map];rfl
 have aF:(pl.map λp=>p.2.2).length=ks.length:=by rw[gL,<- kp.length_eq,gL]
 have hz:(pl.map λp=>p.2.2).length<=sizeLine:=by rw[oC,aF];lia
 have hes:es.size=ks.length:=by rw[<- aF,<- Yv,gL,h9,cV]
 refine yu (vs:=pl.map λp=>p.2.2) (R:=λs'=>Moved [] (λa b=>b=a) s s') hz (rY hh ho S ld (by rw[hes,oC];lia) λs' Sj=>⟨Yv,Sj⟩) λs' Sj=>?_
 have Ss:∀b o,s.heap.get? b=some o->s'.heap.get? b=some o:=λb o e=>Sj.heap b o (λz=>nomatch z) e
 generalize hkw:pl.map (·.1)=kw at kp;have hvl:kw.length=ks.length:=kp.length_eq;have dn:∀o:List Nat,o.Perm (List.range kw.length)->o.map (λi=>kw.getD i [])=bh cE kw->Q (.ref s'⁻¹) { s' with heap:=sortedHeap (s'.heap.push (seqObj "list" (pl.map λp=>p.2.2).toArray 0)) s'⁻¹ (pl.map λp=>p.2.2) (o.map λi=>(pl.map λp=>p.2.2).getD i Value.none).toArray}:=λod hp hs=>by
  obtain⟨qG,he⟩:=sortedHeap_at (h:=s'.heap.push (seqObj "list" (pl.map λp=>p.2.2).toArray 0)) (a:=s'⁻¹) (vs:=pl.map λp=>p.2.2) (n:=0) (out:=(od.map λi=>(pl.map λp=>p.2.2).getD i Value.none).toArray) (eC _ rfl)
  have P9:od.length=ks.length:=by rw[hp.length_eq,B2,hvl]
  have iA:pl.length=ks.length:=by rw[<- aF,gL]
  have hin:∀i∈od,i<pl.length:=λi hi=>by have:=pV.mp (hp.mem_iff.mp hi);lia
  have e1:(od.map λi=>(pl.map λp=>p.2.2).getD i Value.none)=(od.map λi=>adr (pl.getD i ([],(0,.none)))).map Value.ref:=by
   rw[List.map_map];refine CU λi hi=>?_
   have hi':=hin i hi;obtain⟨b,_,e,_⟩:=se _ (sK hi');simp only[Function.comp,hU,mP,eM hi',Option.map,Option.getD,adr,e]
  rw[e1]at he ⊢
  refine q qG _ s' _ Sj ⟨λb o _ hb=>?_,rfl,rfl,rfl,eA _⟩ he (by rw[gL,P9]) λi hi=>?_
  .
   have iZ:=eP hb;rw[sortedHeap_old (kA iZ) (by rw[vS];lia)]
   exact a9 _ hb
  .
   have hio:i<od.length:=by lia
   have hi':=hin od[i] (sK hio);have e2:(bh cE ks)=od.map λi=>kw.getD i []:=by rw[hs];exact (g7 ((cg kw).trans kp) (cK kw)).symm
   obtain⟨b,hb,e,_⟩:=se _ (sK hi');rw[e2,<- hkw];simp only[hU,mP,eM hio,eM hi',Option.map,Option.getD,adr,e];exact hb
 have ht:TupIs s'.heap (pl.map λp=>p.2.2) kw:=by rw[<- hkw];exact (rZ se).keep Ss
 have hlen':(pl.map λp=>p.2.2).length=kw.length:=by rw[aF,hvl]
 by_cases h2:(pl.map λp=>p.2.2).length<2
 .
  refine rE (eC _ rfl) h2 ⟨rfl,?_⟩;have:=dn (List.range kw.length) (.refl _) (by
   rw[bB]
   match kw,hlen' with
   | [],_=>rfl
   | [x],_=>rfl
   |_::_::_,hl2=>rw[hl2,i6,i6]at h2;lia)
  rw[<- hlen',bB]at this;exact this
 .
  have keep:∀b o,s'.heap.get? b=some o->(bR { s' with heap:=s'.heap.push (seqObj "list" (pl.map λp=>p.2.2).toArray 0)} s'⁻¹ (pl.map λp=>p.2.2)).heap.get? b=some o:=λb o e=>jK (kA (eP e)) (a9 _ e)
  have ht':=ht.keep keep;refine rD (κ:=tuples' true) (O:=cE) (key:=λi=>kw.getD i []) (eC _ rfl) ⋯ ⋯ (λQ' hq=>?_) (λi j C hi hj hC=>?_) λp hp hr=>⟨rfl,?_⟩
  .
   obtain⟨fs,q1,q2,q3⟩:=ht'.firsts λk hk=>gG k (kp.mem_iff.mp hk)
   exact kat_kind (T:=.type "int") q1 ⋯ (λv hv=>by obtain⟨i,t,rfl⟩:=q3 v hv;exact nX) ⋯ hq
  .
   obtain⟨a,its,e,⟨o,e1,e2,n,e3⟩,q⟩:=ht'.at hi;obtain⟨b,iB,e',⟨o2,e4,e5,n2,e6⟩,q'⟩:=ht'.at hj;show wpAny _ _ (keyLt' (tuples' true) ((pl.map λp=>p.2.2).getD i Value.none) ((pl.map λp=>p.2.2).getD j Value.none)) C _ _
   rw[e,e'];refine kat_lt e1 e3 e4 e6 (rG q 0 q' ?_ hC);rw[<- q.length,<- q'.length];simp
  . rw[hlen']at hp hr;exact dn p.toList ((y0.mp hp).trans ⋯) (jM hp hr)
end
end Sb
namespace Ev
open L2 PySem.W
open L2 PySem.W
section
open PySem.SeqAt
open PySem.AutoSeq1 (wpAny_loadPart')
open PySem.MeetsSeq PySem.MeetsSeq2 PySem.MeetsSeq3
end
theorem v7:∀{l:List D}{aZ:List (List Int)},dF l=some aZ->l=aZ.map λns=>.tup (ns.map .int)
 | [],_,e=>by cases e;rfl
 |d::l,aZ,e=>by
  cases d with
  |tup m=>
   unfold dF at e;split at e
   . rename_i n ns aZ e1 e2;cases e;rw[List.map_cons,<- v7 e2,vU e1]
   . cases e
  |_=>cases e
open L2 PySem.W
def Eh(x:List Int):D:=.tup (x.map .int)
section
variable{X:Cx}{z:Z}
theorem v8:∀{l:List D}{aZ:List (List Int)},dF l=some aZ->∀x∈aZ,x≠[]
 | [],_,e=>by cases e;exact λ_ z=>nomatch z
 |d::l,aZ,e=>by
  cases d with
  |tup m=>
   unfold dF at e;split at e
   . rename_i n ns aZ e1 e2;cases e;exact λx hx=>(dS.mp hx).elim (λz=>by rw[z];exact Cc _ _) (v8 e2 x)
   . cases e
  |_=>cases e
end
open L2 PySem.W Sb
noncomputable def bN(ks:List (List Int)):List (List Int)->List (List Int)
 | []=>ks
 |k::l=>bN (if k∈ks then ks else ks++[k]) l
theorem sf(val:Nat->List Int):∀(l:List (List Int)) (i:Nat),(∀j,j<l.length->val (i+j)=l.getD j [])->met val (i+l.length)=bN (met val i) l
 | [],i,_=>rfl
 |k::l,i,h=>by
  have h0:val i=k:=h 0 (AK _);have:=sf val l (i+1) λj hj=>by
   have:=h (j+1) (Nat.succ_lt_succ hj);rw[show i+1+j=i+(j+1)by lia,this]
   rfl
  rw[i6,show i+(l.length+1)=i+1+l.length by lia,this]
  show bN (more (met val i) (val i)) l=_;rw[h0];rfl
theorem sr:∀{l ks:List (List Int)}{k:List Int},k∈bN ks l->k∈ks\/k∈l
 | [],_,_,h=>.inl h
 |x::l,ks,k,h=>by
  rcases sr (l:=l) h with h |h
  .
   split at h
   . exact .inl h
   .
    rcases xL.mp h with h |h
    . exact .inl h
    . exact .inr (by rw[gN.mp h];exact dC)
  . exact .inr (b0 _ h)
theorem v9:∀(l ks:List (List Int)),(bN ks l).length<=ks.length+l.length
 | [],_=>eA _
 |x::l,ks=>by
  have:=v9 l (if x∈ks then ks else ks++[x])
  unfold bN;split at this <;> rename_i h <;> simp only[h,↓reduceIte] <;> simp only[eQ,i6,AF]at this ⊢ <;> lia
section
variable{X:Cx}{z:Z}{g g1:G}{p p2 pos pos2:Pos}{e:Expr}
theorem wc{K:Frag}{M:List Addr}{H:Hp}:∀{aZ:List (List Int)}{xs:List V},aC K M H (aZ.map Eh) xs->∃cI:List Addr,xs=cI.map V.ref/\cI.length=aZ.length/\∀j,j<cI.length->Rep K M H (Eh (aZ.getD j [])) (.ref (cI.getD j 0))
 | [],_,q=>by cases q;exact⟨[],rfl,rfl,λj h=>absurd h (l7 _)⟩
 |n::aZ,_,q=>by
  cases q with
  |cons a b=>
   obtain⟨cI,rfl,h1,h2⟩:=wc b;have a':=a;cases a with
   |tup t rr=>
    rename_i c _;exact⟨c::cI,rfl,congrArg (· + 1) h1,λj hj=>match j,hj with
     | 0,_=>a'
     |j+1,hj=>h2 j (yB hj)⟩
theorem su{K:Frag}{M:List Addr}{H:Hp}:∀{Sv:List (List Int)}{bs:List Addr},bs.length=Sv.length->(∀i,i<Sv.length->Rep K M H (Eh (Sv.getD i [])) (.ref (bs.getD i 0)))->aC K M H (Sv.map Eh) (bs.map V.ref)
 | [],[],_,_=>.nil
 | [],_::_,h,_=>nomatch h
 |_::_,[],h,_=>nomatch h
 |k::Sv,b::bs,h,q=>.cons (q 0 (AK _)) (su (Bz h) λi hi=>q (i+1) (Nat.succ_lt_succ hi))
theorem oq:∀{cI:List Addr}{us:List Value},Vals (cI.map V.ref) us->us=cI.map Value.ref
 | [],_,r=>by cases r;rfl
 |a::cI,_,r=>by
  cases r with
  |cons r1 r2=>cases r1;rw[oq r2];rfl
theorem ou:∀l:List Int,bA (l.map .int)=some l
 | []=>rfl
 |n::l=>by
  show (match bA (l.map .int)with |some ns=>some (n::ns) |none=>none)=_
  rw[ou l]
theorem dW{prog:Program}{w:World}{vs:List Value}{ks:List Int}(h:IntsAre vs ks):ItemsAre (intKind prog w) ks vs:=by
 induction h with
 |nil=>exact .nil
 |cons n t _ ih=>exact .cons (by show Value.isInt n (.int n t)=true;simp[Value.isInt]) ih
theorem Nm{ah:List (Addr×Obj)}{σ:Sg}{H:Hp}{s:Shared}{M:List Addr}{k:List Int}{b:Addr}(I:L2.Inv X ah σ H s)(q:Rep X.K M H (Eh k) (.ref b)):IsTupleKey (intKind X.prog X.w) s.heap k b:=by
 cases q with
 |tup t rr=>obtain⟨its,rv,⟨o,h1,h2,n,h3⟩,_⟩:=I.tuple t.sq;refine⟨o,_,n,h1,h2,h3,?_⟩;have e:=bE (ns:=k) rr (ou k);subst e;exact dW (by simpa using intsAre_of rv)
theorem iS:∀cI:List Addr,Vals (cI.map V.ref) (cI.map Value.ref)
 | []=>.nil
 |a::cI=>.cons rfl (iS cI)
theorem Hq{r:R}{l:List D}{aZ:List (List Int)}(hc:X.calm=true)(hu:X.A.units+6<cLine)(hK:z.K=X.K)(ha:bW X z [e] g [r] g1)(hp:pk r g1=some (.tup l))(hi:dF l=some aZ)(hl:aZ.length<64)
  (hg:Gl X "sorted") (hm:X.mg "sorted"=none) (P7:Gl X "set") (hm2:X.mg "set"=none) (dH:starEach [e] X.env=(false,eval e X.env)::starEach [] X.env) :
  aq X z (.Call (.Name "sorted" p) [.Call (.Name "set" p2) [e] [] pos2] [] pos) g (.new ((bh cE (bN [] aZ)).map Eh)) g1:=by
 refine aq.of λah s σ As M H Post I st k=>?_
 refine AU (dJ I hg hm (by rfl:bootBuiltins ("sorted":Str)=some (.builtin "sorted")) (PyProof.Rows.callWith_builtin1 ?_ rfl rfl))
 show wpAny _ _ (spliced ((false,eval (.Call (.Name "set" p2) [e] [] pos2) X.env)::backTo pos (starEach [] X.env))) _ _ s;refine Calls.spliced_cons ?_;refine AU (dJ I P7 hm2 (by rfl:bootBuiltins ("set":Str)=some (.type "set")) (mN (ha.run I st λvs us s1 H1 aR M1 I1 r1 q1 q2 q3=>?_) dH rfl))
 have qU:=q1.qU q3 (ds:=[.tup l]) (by unfold qU;rw[hp];rfl)
 obtain⟨v1,rfl,pv1⟩:=qU.one;obtain⟨u1,rfl,WK⟩:=vals1 r1;obtain⟨a,xs,rfl,e1,e2⟩:=pv1.tup;cases WK;have gG:=v8 hi;rw[v7 hi]at e2;obtain⟨cI,rfl,hal,hrep⟩:=wc e2;obtain⟨its,rv,pl,_⟩:=I1.tuple (hK▸e1.sq);have:=oq rv;subst this;have Qf:s1.heap.IsTuple a (cI.map Value.ref).toArray:=pl;have hh:=I1.ok.hd hc;have hms:met (λj=>aZ.getD j []) cI.length=bN [] aZ:=by
  have:=sf (λj=>aZ.getD j []) aZ 0 λj _=>by rw[BA]
  rw[BA]at this;rw[hal];exact this
 have hln:(bN [] aZ).length<64:=by have:=v9 aZ [];simp only[AF]at this;lia
 refine lJ (knd:=intKind X.prog X.w) (B:=λk b=>Rep z.K M1 H1 (Eh k) (.ref b)) (val:=λj=>aZ.getD j []) hh (by simp only[in1_units];lia) BL Qf (λj hj=>Nm I1 (hK▸hrep j hj)) hrep ⋯ λs' hD=>?_
 rw[hms]at hD;obtain⟨d1,d2,d3,d4,d5,d6⟩:=hD;obtain⟨h',g',dr',tk',os'⟩:=s';dsimp only at d1 d2 d3 d4 d5 d6;subst d3 d4 d5;have I2:L2.Inv X ah σ H1 { s1 with heap:=h',toks:=tk'}:=I1.kept λb o hb=>d2 b o (eP hb) hb
 refine Calls.spliced_nil ?_;refine r9 (s:={ s1 with heap:=h',toks:=tk'}) hh d1 (λk hk=>?_) hln λep bs s2 s3 m1 m2 hget aF hB=>?_
 .
  rcases sr hk with h |h
  . cases h
  . exact gG k h
 .
  obtain⟨h2,g2,dr2,Qc,os2⟩:=s2;obtain⟨h3,g3,dr3,tk3,os3⟩:=s3;obtain⟨a1,a2,a3,a4,a5⟩:=m1;obtain⟨b1,b2,b3,b4,b5⟩:=m2;dsimp only at a1 a2 a3 a4 a5 b1 b2 b3 b4 b5 hget;subst a2 a3 a4 b2 b3 b4;have I3:L2.Inv X ah σ H1 { s1 with heap:=h2,toks:=Qc}:=I2.kept λb o hb=>a1 b o (λz=>nomatch z) hb
  have hf:H1 h2.objs.size=none:=I3.hok.fresh (eA _);have hso:(bh cE (bN [] aZ)).length=(bN [] aZ).length:=(cg _).length_eq;refine k (.ref h2.objs.size) _ _ (upd H1 h2.objs.size (.lst (bs.map V.ref))) aR (h2.objs.size::M1) (I3.laid (t':=tk3) (o:=.lst (bs.map V.ref)) (λb o hb=>b1 b o (λz=>nomatch z) hb) (eA _) ?_) rfl (q1.aK hf) (q2.trans (ao.aK hf)) ⟨_,_,rfl,dC,λhA=>q1.fresh hf (q1.sub _ hA),q1.bQ hf,aD,?_⟩
  . exact⟨by rw[gL,aF,oC];lia,_,ep,iS bs,hget⟩
  . exact (su (by rw[aF,hso]) λi hi=>hB i (by rw[<- hso];exact hi)).stay (ao.aK hf)
end
inductive Bl where
 |len |list |tuple |max |min |str |all |sorted |sum |any
 deriving DecidableEq
set_option genInjectivity false in
inductive Ex where
 |val (d:D) |slot (i:Nat)
 |bin (op:Operator) (a b:Ex) |cmp (op:CmpOp) (a b:Ex) |chain (a:Ex) (ops:List CmpOp) (l:List Ex)
 |neg (a:Ex) |not (a:Ex) |and (l:List Ex) |or (l:List Ex) |ite (c a b:Ex)
 |tup (l:List Ex) |lst (l:List Ex)
 |ix (a b:Ex) |slice (a:Ex) (lo hi:Option Ex)
 |call (f:Nat) (l:List Ex) |blt (b:Bl) (l:List Ex) |jV (a:Ex) (n:String) |mV (a:Ex) (ns:List String)
 |comp (n k:Nat) (T:Tg) (it:Ex) (c:Option Ex) (e:Ex)
 |iT (n k:Nat) (T:Tg) (it:Ex) (ks:List Ex) (v:Ex)
 |dP (a:Ex) |fy (a b:Ex) |fM (a:Ex)
 |zip (a b:Ex) |sset (a:Ex)
 |rev (a:Ex) |emp
 |append (i:Nat) (e:Ex) |extend (i:Nat) (e:Ex) |fO (i:Nat) (e:Ex)
set_option genInjectivity false in
inductive Sm where
 |ret (e:Ex) |expr (e:Ex) |set (i:Nat) (e:Ex) |setC (i:Nat) (e:Ex) |tgt (T:Tg) (e:Ex) |item (i:Nat) (j e:Ex)
 |par (i j:Nat) (a b:Ex)
 |ite (c:Ex) (a b:List Sm) |loop (T:Tg) (it:Ex) (b:List Sm) |while (c:Ex) (b:List Sm) |stuck
structure Fx where
 np:Nat
 n:Nat
 body:List Sm
def Tg.jx:Tg->Bool
 |.tp _=>true
 |.nm _=>false
noncomputable def Hr(i j:Int):Bool:=(decide (-(2 ^ 64)<i)&&decide (i<2 ^ 64))||(decide (-(2 ^ 64)<j)&&decide (j<2 ^ 64))
def lim:Nat:=16777216
noncomputable def iU{α:Type}(f:Int->Int->Option α)(a b:D):Option α:=match a with
 |.int i=>(match b with |.int j=>f i j |_=>none)
 |_=>none
noncomputable def Np(a b:D):Option R:=match a with
 |.int i=>(match b with |.int j=>some (.dat (.int (i+j))) |_=>none)
 |.lst l=>(match b with |.lst m=>if l.length+m.length<=lim then some (.new (l++m))else none |_=>none)
 |.tup l=>(match b with |.tup m=>if l.length+m.length<=lim then some (.dat (.tup (l++m)))else none |_=>none)
 |_=>none
def Hs(a:D)(k:Int):Option R:=match a with
 |.int i=>if Hr i k=true then some (.dat (.int (i * k)))else none
 |.lst l=>if -(2 ^ 63)<=k/\k<2 ^ 63/\l.length * k.toNat<=lim then some (.new (List.replicate k.toNat l).flatten)else none
 |_=>none
def uT(op:Operator)(a b:D):Option R:=match op with
 |.Add=>Np a b
 |.Sub=>iU (λi j=>some (.dat (.int (i - j)))) a b
 |.Mult=>(match b with |.int k=>Hs a k |_=>none)
 |.FloorDiv=>iU (λi j=>if 0<j/\j<1073741824 then some (.dat (.int (i / j)))else none) a b
 |.Mod=>iU (λi j=>if 0<j then some (.dat (.int (i % j)))else none) a b
 |.Pow=>iU (λi j=>if 0<=j/\j<=1000/\i.natAbs<2 ^ 64 then some (.dat (.int (i ^ j.toNat)))else none) a b
 |.LShift=>iU (λi j=>if 0<=j/\j<=1000/\i.natAbs<2 ^ 64 then some (.dat (.int (i * 2 ^ j.toNat)))else none) a b
 |_=>none
def fP(d1 d2:D):Bool:=jc d1&&jc d2&&decide (dep d1<=190)
def Ht(d1:D)(l:List D):Bool:=jc d1&&iI l&&decide (deps l<=190)
def U3(a b:D):Option Bool:=match a with
 |.int i=>(match b with |.int j=>some (decide (i<j)) |_=>none)
 |.tup l=>(match b with |.tup m=>(match bA l with |some ns=>(match bA m with |some ms=>some (HT.lexLt ns ms) |none=>none) |none=>none) |_=>none)
 |_=>none
noncomputable def U4(a b:D):Option Bool:=match b with
 |.bl c=>some (Ju a c)
 |.non=>some (Gf a)
 |_=>none
def dQ(op:CmpOp)(d1 d2:D):Option Bool:=match op with
 |.Eq=>if fP d1 d2=true then some (bO d1 d2)else none
 |.NotEq=>if fP d1 d2=true then some (!bO d1 d2)else none
 |.Lt=>U3 d1 d2
 |.LtE=>iU (λi j=>some (decide (i<=j))) d1 d2
 |.Gt=>iU (λi j=>some (decide (i > j))) d1 d2
 |.GtE=>iU (λi j=>some (decide (i ≥ j))) d1 d2
 |.In=>(match eL d2 with |some l=>if Ht d1 l=true then some (l.any λd=>bO d d1)else none |none=>none)
 |.Is=>U4 d1 d2
 |.IsNot=>(match U4 d1 d2 with |some c=>some (!c) |none=>none)
 |_=>none
def Nq:D->D->Option D
 |.lst l,.int i=>dM l i
 |.fix l,.int i=>dM l i
 |.tup l,.int i=>dM l i
 |.qB ks ds,.tup l=>(match bA l with |some n=>R9 ks ds n |none=>none)
 |_,_=>none
def Qg(b:Bl)(d:D):Option R:=match b with
 |.len=>(match RC d with |some n=>some (.dat (.int n)) |none=>none)
 |.list=>(match eL d with |some l=>some (.new l) |none=>none)
 |.tuple=>(match eL d with |some l=>some (.dat (.tup l)) |none=>none)
 |.str=>(match d with |.int i=>if i.natAbs.log2<1920 then some (.dat (.str (toString i)))else none |_=>none)
 |.all=>(match d with |.lst l=>(match qX l with |some bs=>some (.dat (.bl (bs.all id))) |none=>none) |_=>none)
 |.sorted=>(match eL d with |some l=>(match bA l with |some ns=>if ns.length<64 then some (.new ((dD ns).map .int))else none |none=>match dF l with |some aZ=>if aZ.length<64 then some (.new ((bh cE aZ).map λns=>.tup (ns.map .int)))else none |none=>none) |none=>none)
 |_=>none
def bl2(b:Bl)(d e:D):Option R:=match b with
 |.max=>iU (λi j=>some (.dat (.int (if j > i then j else i)))) d e
 |.min=>iU (λi j=>some (.dat (.int (if j<i then j else i)))) d e
 |_=>none
def mG(b:Bl)(ds:List D):Option R:=match ds with
 | [d]=>Qg b d
 | [d,e]=>bl2 b d e
 |_=>none
noncomputable def cW(t n:String):Bool:=t==n||(t == "bool" && n == "int")
structure Rn where
 e:List Nat->Nat->Ex->G->Option (R×G)
 t:List Nat->Nat->Ex->G->Option (Bool×G)
 b:List Nat->Nat->List Sm->G->Option (Fl×G)
 x:List Nat->Nat->Ex->G->Option (Nat×G)
 xt:List Nat->Nat->Ex->G->Option (Nat×G)
 xb:List Nat->Nat->List Sm->G->Option (Nat×G)
noncomputable def toD(bor:List Nat):R->G->Option (D×G)
 |.dat d,g=>some (d,g)
 |.new l,g=>some (.lst l,g)
 |.var i,g=>if i∈bor then none else match g[i]? with |some (.own l)=>some (.lst l,g.set i (.dat (.lst l))) |_=>none
noncomputable def norm:R->R
 |.new l=>.dat (.lst l)
 |.dat d=>.dat d
 |.var i=>.var i
section
variable(rn:Rn)(bor:List Nat)(k:Nat)
noncomputable def fz(e:Ex)(g:G):Option (D×G):=match rn.e bor k e g with
 |some (r,g1)=>toD bor r g1
 |none=>none
noncomputable def iV:List Ex->G->Option (List D×G)
 | [],g=>some ([],g)
 |e::es,g=>match fz rn bor k e g with
  |some (d,g1)=>match iV es g1 with
   |some (ds,g2)=>some (d::ds,g2)
   |none=>none
  |none=>none
def argsR:List Ex->G->Option (List R×G)
 | [],g=>some ([],g)
 |e::es,g=>match rn.e bor k e g with
  |some (r,g1)=>match argsR es g1 with
   |some (rs,g2)=>some (norm r::rs,g2)
   |none=>none
  |none=>none
def yV:D->List CmpOp->List Ex->G->Option (Bool×G)
 |d1,[op],[b],g=>match fz rn bor k b g with
  |some (d2,g1)=>match dQ op d1 d2 with |some c=>some (c,g1) |none=>none
  |none=>none
 |d1,op::op'::ops,b::b'::bs,g=>match fz rn bor k b g with
  |some (d2,g1)=>match dQ op d1 d2 with
   |some true=>yV d2 (op'::ops) (b'::bs) g1
   |some false=>some (false,g1)
   |none=>none
  |none=>none
 |_,_,_,_=>none
noncomputable def Ci:List Ex->G->Option (R×G)
 | [],_=>none
 | [a],g=>rn.e bor k a g
 |a::b::l,g=>match rn.e bor k a g with
  |some (.dat (.bl true),g1)=>Ci (b::l) g1
  |some (.dat (.bl false),g1)=>some (.dat (.bl false),g1)
  |_=>none
noncomputable def Sw:List Ex->G->Option (R×G)
 | [],_=>none
 | [a],g=>rn.e bor k a g
 |a::b::l,g=>match rn.e bor k a g with
  |some (.dat (.bl false),g1)=>Sw (b::l) g1
  |some (.dat (.bl true),g1)=>some (.dat (.bl true),g1)
  |_=>none
noncomputable def sy:List Ex->G->Option (Bool×G)
 | [],_=>none
 | [a],g=>rn.t bor k a g
 |a::b::l,g=>match rn.t bor k a g with
  |some (true,g1)=>sy (b::l) g1
  |some (false,g1)=>some (false,g1)
  |none=>none
noncomputable def Cj:List Ex->G->Option (Bool×G)
 | [],_=>none
 | [a],g=>rn.t bor k a g
 |a::b::l,g=>match rn.t bor k a g with
  |some (false,g1)=>Cj (b::l) g1
  |some (true,g1)=>some (true,g1)
  |none=>none
noncomputable def sA:Option Ex->G->Option (Option Int×G)
 |none,g=>some (none,g)
 |some e,g=>match fz rn bor k e g with
  |some (.int i,g1)=>some (some i,g1)
  |_=>none
noncomputable def Hu(j:Int):Bool:=decide (-(2 ^ 62)<=j)&&decide (j<2 ^ 62)
def eY(tp:Bool)(it:Ex)(g:G):Option (List D×G):=match it with
 |.dP a=>match fz rn bor k a g with
  |some (.int j,g1)=>if Hu j=true then some (cD 0 j.toNat,g1)else none
  |_=>none
 |.fy a b=>match fz rn bor k a g with
  |some (.int c,g1)=>match fz rn bor k b g1 with
   |some (.int j,g2)=>if Hu c=true/\Hu j=true then some (cD c (j - c).toNat,g2)else none
   |_=>none
  |_=>none
 |.zip a b=>if tp=true then match iV rn bor k [a,b] g with
  |some ([d1,d2],g1)=>match eL d1,eL d2 with |some l,some m=>if isTup d1=isTup d2 then some (pR l m,g1)else none |_,_=>none
  |_=>none
  else none
 |e=>match fz rn bor k e g with
  |some (.tup l,g1)=>some (l,g1)
  |some (.lst l,g1)=>some (l,g1)
  |some (.fix l,g1)=>some (l,g1)
  |_=>none
noncomputable def yW:Option Ex->G->Option (Bool×G)
 |none,g=>some (true,g)
 |some c,g=>rn.t bor k c g
def yw(T:Tg)(last:Nat)(c:Option Ex)(e:Ex):List D->G->Option G
 | [],g=>some g
 |d::l,g=>match T.set d g with
  |none=>none
  |some g1=>match yW rn bor k c g1 with
   |none=>none
   |some (false,g2)=>yw T last c e l g2
   |some (true,g2)=>match fz rn bor k e g2 with
    |none=>none
    |some (x,g3)=>match g3[last]? with
     |some (.own acc)=>if acc.length<lim then yw T last c e l (g3.set last (.own (acc++[x])))else none
     |_=>none
def cJ(n kk:Nat)(T:Tg)(it:Ex)(c:Option Ex)(e:Ex)(g:G):Option (List D×G):=match eY rn bor k T.jx it g with
 |none=>none
 |some (items,g1)=>if g1.length=n/\(T.ix.any λi=>decide (i∈bor))=false then match yw rn bor k T (n+kk) c e items (gC kk g1)with
   |none=>none
   |some gE=>match gE[n+kk]? with
    |some (.own acc)=>some (acc,gE.take n)
    |_=>none
  else none
def U5(T:Tg)(ks:List Ex)(v:Ex):List D->List (List Int)->List D->G->Option ((List (List Int)×List D)×G)
 | [],ka,da,g=>some ((ka,da),g)
 |d::l,ka,da,g=>match T.set d g with
  |none=>none
  |some g1=>match iV rn bor k ks g1 with
   |none=>none
   |some (m,g2)=>match bA m with
    |none=>none
    |some ns=>match fz rn bor k v g2 with
     |none=>none
     |some (x,g3)=>if ((ka.all λk=>!decide (k=ns))&&(pS g3&&jU x))=true/\ka.length<lim/\m.length<=lim then U5 T ks v l (ka++[ns]) (da++[x]) g3 else none
def uU(n kk:Nat)(T:Tg)(it:Ex)(ks:List Ex)(v:Ex)(g:G):Option ((List (List Int)×List D)×G):=match eY rn bor k T.jx it g with
 |none=>none
 |some (items,g1)=>if g1.length=n/\(T.ix.any λi=>decide (i∈bor))=false then match U5 rn bor k T ks v items [] [] (gD kk g1)with
   |none=>none
   |some (p,gE)=>some (p,gE.take n)
  else none
def aO(fx:Fx)(k':Nat)(rs:List R)(g1:G):Option (R×G):=
 if rs.length=fx.np/\((vars 0 rs).map (·.2)).Nodup then match bX rs g1 with
  |none=>none
  |some gs=>match rn.b ((vars 0 rs).map (·.1)) k' fx.body (dm fx.n gs)with
   |some (.rt r,gc)=>match back (vars 0 rs) gc g1 with
    |some gO=>match gX ((vars 0 rs).map (·.1)) gc r with |some r'=>some (r',gO) |none=>none
    |none=>none
   |some (.nx,gc)=>match back (vars 0 rs) gc g1 with
    |some gO=>some (.dat .non,gO)
    |none=>none
   |_=>none
 else none
def aV(fns:List Fx)(e:Ex)(g:G):Option (R×G):=match e with
 |.val d=>some (.dat d,g)
 |.slot i=>match g[i]? with |some (.dat d)=>some (.dat d,g) |some (.own _)=>some (.var i,g) |_=>none
 |.bin op a b=>match argsR rn bor k [a,b] g with
  |some ([r1,r2],g2)=>match pk r1 g2,pk r2 g2 with
   |some d1,some d2=>match uT op d1 d2 with |some r=>some (r,g2) |none=>none
   |_,_=>none
  |_=>none
 |.cmp op a b=>match argsR rn bor k [a,b] g with
  |some ([r1,r2],g2)=>match pk r1 g2,pk r2 g2 with
   |some d1,some d2=>match dQ op d1 d2 with |some c=>some (.dat (.bl c),g2) |none=>none
   |_,_=>none
  |_=>none
 |.chain a ops l=>match fz rn bor k a g with
  |some (d1,g1)=>match yV rn bor k d1 ops l g1 with |some (c,g2)=>some (.dat (.bl c),g2) |none=>none
  |none=>none
 |.neg a=>match fz rn bor k a g with |some (.int i,g1)=>some (.dat (.int (-i)),g1) |_=>none
 |.not a=>match rn.e bor k a g with |some (.dat (.bl c),g1)=>some (.dat (.bl (!c)),g1) |_=>none
 |.and l=>Ci rn bor k l g
 |.or l=>Sw rn bor k l g
 |.ite c a b=>match rn.t bor k c g with
  |some (true,g1)=>rn.e bor k a g1
  |some (false,g1)=>rn.e bor k b g1
  |none=>none
 |.tup l=>match iV rn bor k l g with |some (ds,g1)=>if ds.length<=lim then some (.dat (.tup ds),g1)else none |none=>none
 |.lst l=>match iV rn bor k l g with |some (ds,g1)=>if ds.length<=lim then some (.new ds,g1)else none |none=>none
 |.ix a b=>match argsR rn bor k [a,b] g with
  |some ([r1,r2],g2)=>match pk r1 g2,pk r2 g2 with
   |some d1,some d2=>match Nq d1 d2 with |some d=>some (.dat d,g2) |none=>none
   |_,_=>none
  |_=>none
 |.slice a lo hi=>match rn.e bor k a g with
  |some (r,g1)=>match sA rn bor k lo g1 with
   |some (i,g2)=>match sA rn bor k hi g2 with
    |some (j,g3)=>match norm r with
     |.dat (.tup l)=>some (.dat (.tup (fG l i j)),g3)
     |.dat (.fix l)=>some (.new (fG l i j),g3)
     |r'=>match pk r' g3 with |some (.lst l)=>some (.new (fG l i j),g3) |_=>none
    |none=>none
   |none=>none
  |none=>none
 |.call f l=>match fns[f]?,k with
  |some fx,k'+1=>match argsR rn bor k l g with
   |some (rs,g1)=>aO rn fx k' rs g1
   |none=>none
  |_,_=>none
 |.blt b l=>match argsR rn bor k l g with
  |some (rs,g1)=>match qU rs g1 with
   |some ds=>match mG b ds with |some r=>some (r,g1) |none=>none
   |none=>none
  |none=>none
 |.jV a n=>match rn.e bor k a g with
  |some (r,g1)=>match pk (norm r) g1 with |some d=>some (.dat (.bl (cW (j5 d) n)),g1) |none=>none
  |none=>none
 |.mV a ns=>match rn.e bor k a g with
  |some (r,g1)=>match pk (norm r) g1 with |some d=>some (.dat (.bl (ns.any (cW (j5 d)))),g1) |none=>none
  |none=>none
 |.comp n kk T it c e=>match cJ rn bor k n kk T it c e g with |some (acc,g1)=>some (.new acc,g1) |none=>none
 |.iT n kk T it ks v=>match uU rn bor k n kk T it ks v g with |some (p,g1)=>some (.dat (.qB p.1 p.2),g1) |none=>none
 |.rev a=>match rn.e bor k a g with
  |some (r,g1)=>match norm r with
   |.dat (.tup l)=>some (.dat (.tup l.reverse),g1)
   |r'=>match pk r' g1 with |some (.lst l)=>some (.new l.reverse,g1) |_=>none
  |none=>none
 |.emp=>some (.dat .emp,g)
 |.append i e=>match g[i]? with
  |some (.own _)=>match fz rn bor k e g with
   |some (d,g1)=>match g1[i]? with |some (.own l)=>if l.length<lim then some (.dat .non,g1.set i (.own (l++[d])))else none |_=>none
   |none=>none
  |_=>none
 |.extend i e=>match g[i]? with
  |some (.own _)=>match fz rn bor k e g with
   |some (.lst m,g1)=>match g1[i]? with |some (.own l)=>if l.length+m.length<=lim then some (.dat .non,g1.set i (.own (l++m)))else none |_=>none
   |_=>none
  |_=>none
 |.fO i e=>match g[i]? with
  |some (.own _)=>match fz rn bor k e g with
   |some (.int j,g1)=>match g1[i]? with
    |some (.own l)=>match vB l.length j with
     |some n=>match l[n]? with |some d=>if l.length<lim then some (.dat d,g1.set i (.own (l.eraseIdx n)))else none |none=>none
     |none=>none
    |_=>none
   |_=>none
  |_=>none
 |.dP _=>none
 |.fy _ _=>none
 |.zip _ _=>none
 |.sset a=>match rn.e bor k a g with
  |some (r,g1)=>match pk (norm r) g1 with
   |some (.tup l)=>match dF l with
    |some aZ=>if aZ.length<64 then some (.new ((bh cE (bN [] aZ)).map Eh),g1)else none
    |none=>none
   |_=>none
  |none=>none
 |.fM a=>match fz rn bor k a g with
  |some (.int j,g1)=>if Hu j=true/\j.toNat<=lim then some (.new (cD 0 j.toNat),g1)else none
  |_=>none
def stepT(e:Ex)(g:G):Option (Bool×G):=match e with
 |.cmp op a b=>match argsR rn bor k [a,b] g with
  |some ([r1,r2],g2)=>match pk r1 g2,pk r2 g2 with
   |some d1,some d2=>match dQ op d1 d2 with |some c=>some (c,g2) |none=>none
   |_,_=>none
  |_=>none
 |.chain a ops l=>match fz rn bor k a g with
  |some (d1,g1)=>yV rn bor k d1 ops l g1
  |none=>none
 |.not a=>match rn.t bor k a g with |some (c,g1)=>some (!c,g1) |none=>none
 |.and l=>sy rn bor k l g
 |.or l=>Cj rn bor k l g
 |.ite _ _ _=>none
 |e=>match rn.e bor k e g with
  |some (r,g1)=>match pk (norm r) g1 with
   |some d=>match GF d with |some c=>some (c,g1) |none=>none
   |none=>none
  |none=>none
def fQ(T:Tg)(b:G->Option (Fl×G)):List D->G->Option (Fl×G)
 | [],g=>some (.nx,g)
 |d::l,g=>match T.set d g with
  |none=>none
  |some g0=>match b g0 with
   |none=>none
   |some (.nx,g1)=>fQ T b l g1
   |some (.ct,g1)=>fQ T b l g1
   |some (.bk,g1)=>some (.nx,g1)
   |some (.rt r,g1)=>some (.rt r,g1)
noncomputable def JG(c:G->Option (Bool×G))(b:G->Option (Fl×G)):Nat->G->Option (Fl×G)
 | 0,_=>none
 |n+1,g=>match c g with
  |none=>none
  |some (false,g1)=>some (.nx,g1)
  |some (true,g1)=>match b g1 with
   |none=>none
   |some (.nx,g2)=>JG c b n g2
   |some (.ct,g2)=>JG c b n g2
   |some (.bk,g2)=>some (.nx,g2)
   |some (.rt r,g2)=>some (.rt r,g2)
def aE(st:Sm)(g:G):Option (Fl×G):=match st with
 |.ret e=>match rn.e bor k e g with |some (r,g1)=>some (.rt r,g1) |none=>none
 |.expr e=>match rn.e bor k e g with |some (_,g1)=>some (.nx,g1) |none=>none
 |.set i e=>if i∈bor then none else match rn.e bor k e g with
  |some (.new l,g1)=>if i<g1.length then some (.nx,g1.set i (.own l))else none
  |some (r,g1)=>match toD bor r g1 with |some (d,g2)=>some (.nx,g2.set i (.dat d)) |none=>none
  |none=>none
 |.setC i e=>if i∈bor then none else match e with
  |.comp n kk T it c e=>match cJ rn bor k n kk T it c e g with
   |some (acc,g1)=>if i<g1.length then some (.nx,g1.set i (.own acc))else none
   |none=>none
  |_=>none
 |.tgt T e=>if T.ix.any (λi=>decide (i∈bor))=true then none else match fz rn bor k e g with
  |some (d,g1)=>match T.set d g1 with |some g2=>some (.nx,g2) |none=>none
  |none=>none
 |.item i j e=>match fz rn bor k e g with
  |some (d,g1)=>match g1[i]? with
   |some (.own _)=>match fz rn bor k j g1 with
    |some (.int n,g2)=>match g2[i]? with
     |some (.own l)=>match vB l.length n with |some m=>some (.nx,g2.set i (.own (l.set m d))) |none=>none
     |_=>none
    |_=>none
   |_=>none
  |none=>none
 |.par i j a b=>if i∈bor then none else if j∈bor then none else match iV rn bor k [a,b] g with
  |some ([d1,d2],g1)=>some (.nx,(g1.set i (.dat d1)).set j (.dat d2))
  |_=>none
 |.ite c a b=>match rn.t bor k c g with
  |some (true,g1)=>rn.b bor k a g1
  |some (false,g1)=>rn.b bor k b g1
  |none=>none
 |.loop T it b=>if T.ix.any (λi=>decide (i∈bor))=true then none else match eY rn bor k T.jx it g with
  |some (items,g1)=>fQ T (rn.b bor k b) items g1
  |none=>none
 |.while c b=>JG (rn.t bor k c) (rn.b bor k b) 100000 g
 |.stuck=>none
def cX:List Sm->G->Option (Fl×G)
 | [],g=>some (.nx,g)
 |st::rest,g=>match aE rn bor k st g with
  |some (.nx,g1)=>cX rest g1
  |some (f,g1)=>some (f,g1)
  |none=>none
end
noncomputable def xArgs(rn:Rn)(bor:List Nat)(k:Nat)(l:List Ex)(g:G):Option (Nat×G):=none
noncomputable def Cp(rn:Rn)(bor:List Nat)(k:Nat)(fns:List Fx)(e:Ex)(g:G):Option (Nat×G):=none
def uV(rn:Rn)(bor:List Nat)(k:Nat)(e:Ex)(g:G):Option (Nat×G):=none
noncomputable def Nr(rn:Rn)(bor:List Nat)(k:Nat)(st:Sm)(g:G):Option (Nat×G):=none
noncomputable def uW(rn:Rn)(bor:List Nat)(k:Nat)(l:List Sm)(g:G):Option (Nat×G):=none
def step(fns:List Fx)(rn:Rn):Rn:=⟨λbor k e g=>aV rn bor k fns e g,λbor k e g=>stepT rn bor k e g,λbor k l g=>cX rn bor k l g,λbor k e g=>Cp rn bor k fns e g,λbor k e g=>uV rn bor k e g,λbor k l g=>uW rn bor k l g⟩
noncomputable def rn0:Rn:=⟨λ_ _ _ _=>none,λ_ _ _ _=>none,λ_ _ _ _=>none,λ_ _ _ _=>none,λ_ _ _ _=>none,λ_ _ _ _=>none⟩
def run(fns:List Fx):Nat->Rn
 | 0=>rn0
 |n+1=>step fns (run fns n)
structure Ct where
 N:List Str
 sc:Scope
 df:Bool
 q:Str
structure Fi where
 name:Str
 qual:Str
 st:Stmt
 N:List Str
 ps:List Str
structure Pg where
 fn:List Fi
 ct:List (Str×D)
 bn:List Str
 cls:List Str:=[]
 lam:Bool:=false
 JH:List Addr:=[]
 kt:Str:=Str.empty
 ups:List (Str×List (Addr×Bool)):=[]
def Nt:Str:= "law.<locals>.<lambda>"
def Nu(K:Frag)(mg:Str->Option Value)(dG:Value):Prop:=
 ∃c q,dG=.ref c/\(∀b:Heap,K.In b->PySem.W.CodeHd b c q)/\(q,Nt)∈dN K/\(∀b:Heap,K.In b->b.BuiltinsAt mg q)/\mainGlobals≠q
structure yx(P:Pg)(K:Frag)(mg:Str->Option Value):Prop where
 fn:∀(i:Nat) (fi:Fi),P.fn[i]?=some fi->∃f fd,mg fi.name=some (.ref f)/\Rk K fi.name fi.qual fi.st f fd/\dB fi.N fi.ps (aJ fi.st)/\L2.Binds K fd fi.ps []/\(fi.name==("__debug__":Str))=false
 ct:∀(x:Str) (d:D),(x,d)∈P.ct->(x==("__debug__":Str))=false/\∃v u,mg x=some u/\RelV v u/\∀M H,Rep K M H d v
 bn:∀x∈P.bn,mg x=none
 cls:∀x∈P.cls,(x==("__debug__":Str))=false/\∃C,mg x=some (.ref C)/\xT K C
 lam:P.lam=true->∀dG,PySem.W.codeIn K dG "law"=true->Nu K mg dG
 JH:∀(i:Nat) (C:Addr),P.JH[i]?=some C->∃x,P.cls[i]?=some x/\mg x=some (.ref C)/\xT K C/\Rp K C
 kt:P.lam=true->(P.kt==("__debug__":Str))=false/\∃D,mg P.kt=some (.ref D)/\xT K D/\∀C∈P.JH,R8 K C D=true
 ups:∀(x:Str) (l:List (Addr×Bool)),(x,l)∈P.ups->(x==("__debug__":Str))=false/\∃cv,((mg x=some cv/\∃D,cv=.ref D)\/(x∈P.bn/\x≠ "__name__" /\bootBuiltins x=some cv/\∃n,cv=.type n))/\PySem.W.kitOne K (.type "NoneType") cv=some false/\∀C b,l.lookup C=some b->PySem.W.kitOne K (.ref C) cv=some b
structure aX(P:Pg)(k:Nat)(X:Cx)(c:Ct):Prop where
 N:X.N=c.N
 nd:c.N.Nodup
 Qh:∀x,c.sc.names.lookup x=some .local->X.env.scope.names.lookup x=some .local
 mW:∀x,c.sc.names.lookup x=some .globalImplicit->Gl X x
 W2:∀x,c.sc.names.lookup x=some .cell\/c.sc.names.lookup x=some .free->X.env.scope.names.lookup x=some .cell\/X.env.scope.names.lookup x=some .free
 W3:c.df=true->∀x,c.sc.names.lookup x=some .cell->X.env.scope.names.lookup x=some .cell
 fn:∀x,c.df=true\/c.sc.names.lookup x=some .local->X.fn x=true
 bk:c.df=true->X.env.blockKind=.function
 calm:X.calm=true
 xe:X.xe=λ_ _=>False
 md:yx P X.K X.mg
 room:dR k X.A
 lam:c.q = "law" ->P.lam=true->X.env.qual ++ "<lambda>"=Nt/\Nu X.K X.mg X.env.code
noncomputable def p8(sc:Scope)(x:Str):Bool:=match sc.names.lookup x with |some .local=>true |some .cell=>true |some .free=>true |_=>false
noncomputable def jW(c:Ct)(x:Str):Bool:=match c.sc.names.lookup x with |some .local=>true |some .cell=>c.df |_=>false
noncomputable def cL(x:Str):Bool:=!(x==("__debug__":Str))&&!(x==("__classdict__":Str))
section
theorem aX.vis(h:aX P k X c)(hv:p8 c.sc x=true):Ea X.env.scope x:=by
 unfold p8 at hv;split at hv
 . rename_i e;exact .inl (h.Qh x e)
 . rename_i e;exact (h.W2 x (.inl e)).elim (λq=>.inr (.inl q)) λq=>.inr (.inr q)
 . rename_i e;exact (h.W2 x (.inr e)).elim (λq=>.inr (.inl q)) λq=>.inr (.inr q)
 . cases hv
theorem aX.nm(h:aX P k X c)(hi:c.N[i]?=some x)(hs:jW c x=true):Mq X x i:=by
 refine⟨h.N▸h.nd,by rw[h.N];exact hi,?_,.inl (h.fn x ?_)⟩
 .
  unfold jW at hs;split at hs
  . rename_i e;exact .inl (h.Qh x e)
  . rename_i e;exact .inr (h.W3 hs x e)
  . cases hs
 .
  unfold jW at hs;split at hs
  . rename_i e;exact .inr e
  . exact .inl hs
  . cases hs
theorem fS(h:cL x=true):(x==("__debug__":Str))=false/\(x==("__classdict__":Str))=false:=by unfold cL at h;simp only[eJ,Bool.not_eq_true']at h;exact h
theorem bK{α:Type}{f:Int->Int->Option α}{a b:D}{r:α}(h:iU f a b=some r):∃i j,a=.int i/\b=.int j/\f i j=some r:=by
 unfold iU at h;split at h
 .
  split at h
  . exact⟨_,_,rfl,rfl,h⟩
  . cases h
 . cases h
theorem Hv{d1 d2:D}{r:R}(hK:z.K=X.K)(h:Np d1 d2=some r):jj X z (binaryOp .Add) d1 d2 r:=by
 unfold Np at h;split at h
 .
  split at h
  . cases h;exact vI Kr
  . cases h
 .
  split at h
  .
   split at h
   . rename_i hc;cases h;exact Lz hc
   . cases h
  . cases h
 .
  split at h
  .
   split at h
   . rename_i hc;cases h;exact Gh hK hc
   . cases h
  . cases h
 . cases h
theorem Hw{d1:D}{k:Int}{r:R}(hK:z.K=X.K)(h:Hs d1 k=some r):jj X z (binaryOp .Mult) d1 (.int k) r:=by
 unfold Hs at h;split at h
 .
  split at h
  . rename_i hc;cases h;refine pH Ku ?_;unfold Hr at hc;simp only[x5,eJ,i5]at hc;exact hc
  . cases h
 .
  split at h
  . rename_i hc;cases h;exact LC hc.1 hc.2.1 hc.2.2
  . cases h
 . cases h
theorem Nv(hK:z.K=X.K)(h:uT op d1 d2=some r):jj X z (binaryOp op) d1 d2 r:=by
 cases op with
 |Add=>exact Hv hK h
 |Sub=>obtain⟨i,j,rfl,rfl,h'⟩:=bK h;cases h';exact vI Ks
 |Mult=>
  dsimp only[uT]at h;split at h
  . exact Hw hK h
  . cases h
 |FloorDiv=>
  obtain⟨i,j,rfl,rfl,h'⟩:=bK h;split at h'
  . rename_i hc;cases h';exact pH Ew hc
  . cases h'
 |Mod=>
  obtain⟨i,j,rfl,rfl,h'⟩:=bK h;split at h'
  . rename_i hc;cases h';exact pH Kv hc
  . cases h'
 |Pow=>
  obtain⟨i,j,rfl,rfl,h'⟩:=bK h;split at h'
  . rename_i hc;cases h';exact pH oR ⟨hc.1,by have:=hc.2.1;lia,hc.2.2⟩
  . cases h'
 |LShift=>
  obtain⟨i,j,rfl,rfl,h'⟩:=bK h;split at h'
  . rename_i hc;cases h';exact Nf hc.1 (by have:=hc.2.1;lia) hc.2.2
  . cases h'
 |_=>cases h
theorem lO(hK:z.K=X.K)(hr:dR k X.A)(h:dQ op d1 d2=some b):jj X z (compareOp op) d1 d2 (.dat (.bl b)):=by
 have hu:=hr.un;cases op with
 |Eq=>
  dsimp only[dQ]at h;split at h
  . rename_i hc;cases h;simp only[fP,eJ,i5]at hc;exact Rw hK hc.1.1 hc.1.2 (by have:=hc.2;lia)
  . cases h
 |NotEq=>
  dsimp only[dQ]at h;split at h
  . rename_i hc;cases h;simp only[fP,eJ,i5]at hc;exact Ry hK hc.1.1 hc.1.2 (by have:=hc.2;lia)
  . cases h
 |Lt=>
  dsimp only[dQ,U3]at h;split at h
  .
   split at h
   . cases h;exact pI QM
   . cases h
  .
   split at h
   .
    split at h
    .
     rename_i h1;split at h
     . rename_i h2;cases h;exact LW hK ⋯ h1 h2
     . cases h
    . cases h
   . cases h
  . cases h
 |LtE=>obtain⟨i,j,rfl,rfl,h'⟩:=bK h;cases h';exact pI QS
 |Gt=>obtain⟨i,j,rfl,rfl,h'⟩:=bK h;cases h';exact pI QT
 |GtE=>obtain⟨i,j,rfl,rfl,h'⟩:=bK h;cases h';exact pI QV
 |In=>
  dsimp only[dQ]at h;split at h
  .
   rename_i hs;split at h
   . rename_i hc;cases h;simp only[Ht,eJ,i5]at hc;exact Rz hK hs hc.1.1 hc.1.2 (by have:=hc.2;lia)
   . cases h
  . cases h
 |Is=>
  dsimp only[dQ,U4]at h;split at h
  . cases h;exact RB
  . cases h;exact Ly
  . cases h
 |IsNot=>
  dsimp only[dQ]at h;unfold U4 at h;split at h
  .
   rename_i e;split at e
   . cases e;cases h;exact zY
   . cases e;cases h;exact Gg
   . cases e
  . cases h
 |_=>cases h
theorem Nx{d1 d2 d:D}(hK:z.K=X.K)(hr:X.A.units+1<cLine)(h:Nq d1 d2=some d):P6 X z d1 d2 (.dat d):=by
 unfold Nq at h;split at h
 . exact LQ hK h
 . exact LR hK h
 . exact Gi hK h
 .
  split at h
  . rename_i e;exact Nc hK hr e h
  . cases h
 . cases h
noncomputable def Sx:Bl->Str×Value
 |.len=>("len",.builtin "len")
 |.list=>("list",.type "list")
 |.tuple=>("tuple",.type "tuple")
 |.max=>("max",.builtin "max")
 |.min=>("min",.builtin "min")
 |.str=>("str",.type "str")
 |.all=>("all",.builtin "all")
 |.any=>("any",.builtin "any")
 |.sorted=>("sorted",.builtin "sorted")
 |.sum=>("sum",.builtin "sum")
theorem Ny{b:Bl}{d:D}{r:R}(hK:z.K=X.K)(hc:X.calm=true)(hr:X.A.units+6<cLine)(h:Qg b d=some r):CallD X z (Sx b).2 [d] r:=by
 cases b <;> dsimp only[Qg]at h
 case len=>
  split at h
  . rename_i e;cases h;exact L5 hK e
  . cases h
 case list=>
  split at h
  . rename_i e;cases h;exact Gj hK e
  . cases h
 case tuple=>
  split at h
  . rename_i e;cases h;exact z8 hK e
  . cases h
 case str=>
  split at h
  .
   split at h
   . rename_i e;cases h;exact Ma e
   . cases h
  . cases h
 case all=>
  split at h
  .
   split at h
   . rename_i e;cases h;exact Mf hc e
   . cases h
  . cases h
 case sorted=>
  split at h
  .
   rename_i e1;split at h
   .
    rename_i e2;split at h
    . rename_i e3;cases h;exact xQ hK e1 e2 e3
    . cases h
   .
    split at h
    .
     rename_i e2;split at h
     . rename_i e3;cases h;exact uy hK e1 e2 e3
     . cases h
    . cases h
  . cases h
 all_goals cases h
theorem Nz{b:Bl}{ds:List D}{r:R}(hK:z.K=X.K)(hc:X.calm=true)(hr:X.A.units+6<cLine)(h:mG b ds=some r):CallD X z (Sx b).2 ds r:=by
 unfold mG at h;split at h
 . exact Ny hK hc hr h
 .
  cases b with
  |max=>obtain⟨i,j,rfl,rfl,h'⟩:=bK h;cases h';exact L7 hc
  |min=>obtain⟨i,j,rfl,rfl,h'⟩:=bK h;cases h';exact L8 hc
  |_=>cases h
 . cases h
noncomputable def mX:List String:=["int", "bool", "str", "tuple", "list", "dict"]
theorem sC{K:Frag}{M:List Addr}{H:Hp}{v:V}{d:D}(p:Pk K M H d v){n:String}(hn:n∈mX):PySem.W.kitOne K (Ed d) (.type n)=some (cW (j5 d) n):=by
 cases d with
 |vG C=>
  cases p with
  |of q=>
   cases q with
   |vG k _ _=>refine (k.kit n hn).trans ?_;unfold mX at hn;simp only[dS,i8,wS]at hn;rcases hn with rfl |rfl |rfl |rfl |rfl |rfl <;> first |rfl |decide
 |_=>unfold mX at hn;simp only[dS,i8,wS]at hn;rcases hn with rfl |rfl |rfl |rfl |rfl |rfl <;> first |rfl |decide
theorem ow{K:Frag}{M:List Addr}{H:Hp}{v:V}{d:D}(p:Pk K M H d v):∀{ns:List String},(∀n∈ns,n∈mX)->PySem.W.kitAny K (Ed d) (ns.map Value.type)=some (ns.any (cW (j5 d)))
 | [],_=>rfl
 |n::ns,h=>by
  show (match PySem.W.kitOne K (Ed d) (.type n)with |some true=>some true |some false=>PySem.W.kitAny K (Ed d) (ns.map Value.type) |none=>none)=_
  rw[sC p (h n dC),ow p λm hm=>h m (b0 _ hm),List.any_cons]
  cases cW (j5 d) n <;> rfl
end
noncomputable def Cq(sc scope:Scope):Bool:=decide (scope.kind=.function)&&scope.names.all λy=>decide (y.2≠.cell)&&(decide (y.2≠.local)||decide (scope.names.lookup y.1=some .local)) &&
 (decide (y.2≠.free)||(decide (scope.names.lookup y.1=some .free)&&(decide (sc.names.lookup y.1=some .cell)||decide (sc.names.lookup y.1=some .free))))
noncomputable def lP(N N':List Str)(scope:Scope)(k:Nat):Bool:=decide (N'.length=N.length+(k+1))&&(match N'[N.length+k]? with |some x=>decide (scope.names.lookup x=none) |none=>true) &&
 (List.range N.length).all λi=>match N'[i]? with |some x=>decide (scope.names.lookup x=none)||(decide (N[i]?=some x)&&decide (scope.names.lookup x≠some .local)) |none=>true
inductive yy(c:Ct):List Expr->List Nat->Prop
 |nil:yy c [] []
 |cons {x:Str}{i:Nat}{pos:Pos}{es:List Expr}{is:List Nat}:c.N[i]?=some x->jW c x=true->yy c es is->yy c (.Name x pos::es) (i::is)
inductive uX(P:Pg)(c:Ct):List Expr->List String->Prop
 |nil:uX P c [] []
 |cons {T:Str}{n:String}{pos:Pos}{es:List Expr}{ns:List String}:T∈P.bn->c.sc.names.lookup T=some .globalImplicit->T=Str.ofString n->n∈mX->uX P c es ns->uX P c (.Name T pos::es) (n::ns)
inductive Cr(c:Ct):Expr->Tg->Prop
 |nm:c.N[i]?=some x->jW c x=true->Cr c (.Name x pos) (.nm i)
 |tp {es:List Expr}{is:List Nat}{k:Nat}{pos:Pos}:yy c es is->Cr c (.Tuple es k pos) (.tp is)
noncomputable def Hx(c:Ct)(x y:Str)(px py:Pos)(a b:Expr):Bool:=(c.sc.names.lookup x==some .local)&&(c.sc.names.lookup y==some .local)&&py.line==px.line&&!(x==y)&&!(foldedForSure 8 a&&foldedForSure 8 b)&&!(constantsAlone 8 a&&constantsAlone 8 b)&&c.df
noncomputable def NB(c:Ct)(y:Str)(py pos:Pos)(scope:Scope):Bool:=(c.sc.names.lookup y==some .local)&&py.line==pos.line&&!(scope.names.any λ(n,k)=>n==y&&(k==.local||k==.cell))
def nmW(e:Expr):Option Str:=match e with |.Name x _=>some x |_=>none
noncomputable def tpN(n:Nat)(e:Expr):Bool:=match e with |.Tuple vs _ _=>decide (vs.length=n) |_=>false
noncomputable def Sy(c:Ct)(a:Expr):Bool:=match nmW a with |some x=>decide (c.sc.names.lookup x=some .cell) |none=>false
def Hy(c:Ct)(es:List Expr)(e:Expr):Bool:=tpN es.length e&&(c.df&&es.any (Sy c))
inductive g9(R:Expr->Ex->Prop):List Expr->List Ex->Prop
 |nil:g9 R [] []
 |cons {e:Expr}{es:List Expr}{x:Ex}{xs:List Ex}:R e x->g9 R es xs->g9 R (e::es) (x::xs)
inductive yz(R:Expr->Ex->Prop):Option Expr->Option Ex->Prop
 |none:yz R Option.none Option.none
 |some {e:Expr}{x:Ex}:R e x->yz R (Option.some e) (Option.some x)
inductive sD(R:Expr->Ex->Prop):List Expr->Option Ex->Prop
 |none:sD R [] Option.none
 |some {e:Expr}{x:Ex}:R e x->sD R [e] (Option.some x)
inductive mY(P:Pg)(R:Expr->Ex->Prop)(c:Ct):Expr->Ex->Prop
 |seq:R e x->mY P R c e x
 |dP:R a xa->("range":Str)∈P.bn->c.sc.names.lookup ("range":Str)=some .globalImplicit->mY P R c (.Call (.Name "range" p) [a] [] pos) (.dP xa)
 |fy:R a xa->R b xb->("range":Str)∈P.bn->c.sc.names.lookup ("range":Str)=some .globalImplicit->mY P R c (.Call (.Name "range" p) [a,b] [] pos) (.fy xa xb)
 |zip:R a xa->R b xb->("zip":Str)∈P.bn->c.sc.names.lookup ("zip":Str)=some .globalImplicit->mY P R c (.Call (.Name "zip" p) [a,b] [] pos) (.zip xa xb)
noncomputable def JK(e:Expr):Option Str:=match e with |.Name x _=>some x |_=>none
theorem p9{e:Expr}{x:Str}(h:JK e=some x):∃p,e=.Name x p:=by cases e <;> first | (cases h;exact⟨_,rfl⟩) |cases h
noncomputable def Cv{α:Type}(l:List α):Option α:=match l with | [a]=>some a |_=>none
theorem ki{α:Type}{l:List α}{a:α}(h:Cv l=some a):l=[a]:=by
 cases l with
 |nil=>cases h
 |cons b l=>cases l with
  |nil=>cases h;rfl
  |cons _ _=>cases h
noncomputable def Sz(s:Stmt):Option (List Expr×Expr):=match s with |.Assign ts e _=>some (ts,e) |_=>none
theorem Hz{s:Stmt}{r:List Expr×Expr}(h:Sz s=some r):∃p,s=.Assign r.1 r.2 p:=by cases s <;> first | (cases h;exact⟨_,rfl⟩) |cases h
noncomputable def SJ(e:Expr):Option Const:=match e with |.Constant c _ _=>some c |_=>none
theorem HB(h:SJ e=some c):∃j p,e=.Constant c j p:=by cases e <;> first | (cases h;exact⟨_,_,rfl⟩) |cases h
noncomputable def SM(c:Const):Option Unit:=match c with |.none=>some () |_=>none
theorem HD(h:SM c=some ()):c=.none:=by cases c <;> first |rfl |cases h
noncomputable def SN(s:Stmt):Option Expr:=match s with |.Expr e _=>some e |_=>none
theorem HF{s:Stmt}{e:Expr}(h:SN s=some e):∃p,s=.Expr e p:=by cases s <;> first | (cases h;exact⟨_,rfl⟩) |cases h
noncomputable def SQ(e:Expr):Option (Expr×List Expr×List Keyword):=match e with |.Call f as ks _=>some (f,as,ks) |_=>none
theorem HJ{e:Expr}{r:Expr×List Expr×List Keyword}(h:SQ e=some r):∃p,e=.Call r.1 r.2.1 r.2.2 p:=by cases e <;> first | (cases h;exact⟨_,rfl⟩) |cases h
noncomputable def SX(s:Stmt):Option (List Stmt×List ExceptHandler×List Stmt×List Stmt):=match s with |.Try b h o f _=>some (b,h,o,f) |_=>none
theorem HN{s:Stmt}{r:List Stmt×List ExceptHandler×List Stmt×List Stmt}(h:SX s=some r):∃p,s=.Try r.1 r.2.1 r.2.2.1 r.2.2.2 p:=by cases s <;> first | (cases h;exact⟨_,rfl⟩) |cases h
noncomputable def Cw{α:Type}(l:List α):Option Unit:=match l with | []=>some () |_=>none
theorem kj{α:Type}{l:List α}(h:Cw l=some ()):l=[]:=by cases l with |nil=>rfl |cons _ _=>cases h
noncomputable def S0(h:ExceptHandler):Option (Expr×Str×List Stmt):=match h with |.ExceptHandler t n b _=>t.bind λt=>n.bind λn=>some (t,n,b)
theorem HQ{h:ExceptHandler}{r:Expr×Str×List Stmt}(e:S0 h=some r):∃p,h=.ExceptHandler (some r.1) (some r.2.1) r.2.2 p:=by
 obtain⟨t,n,b,p⟩:=h;cases t with
 |none=>cases e
 |some t=>cases n with
  |none=>cases e
  |some n=>cases e;exact⟨p,rfl⟩
def wg(s:Stmt):Option (Str×Expr):=(Sz s).bind λr=>(Cv r.1).bind λt=>(JK t).bind λx=>some (x,r.2)
theorem sE{s:Stmt}{r:Str×Expr}(h:wg s=some r):∃p q,s=.Assign [.Name r.1 p] r.2 q:=by unfold wg at h;simp only[eR]at h;obtain⟨⟨ts,e⟩,h1,t,h2,x,h3,h4⟩:=h;cases h4;obtain⟨p,rfl⟩:=Hz h1;obtain⟨q,rfl⟩:=p9 h3;have:=ki h2;dsimp only at this;subst this;exact⟨q,p,rfl⟩
def NC(l:List Stmt):Option Str:=(Cv l).bind λs3=>(SN s3).bind λce=>(SQ ce).bind λf=>(Cw f.2.1).bind λ_=>(Cw f.2.2).bind λ_=>JK f.1
theorem U6{l:List Stmt}{y:Str}(h:NC l=some y):∃py cp ep,l=[.Expr (.Call (.Name y py) [] [] cp) ep]:=by replace h:=eR.1 h;obtain⟨s3,h1,h⟩:=h;cases ki h1;clear h1;replace h:=eR.1 h;obtain⟨ce,h1,h⟩:=h;obtain⟨p,e1⟩:=HF h1;cases e1;clear h1;replace h:=eR.1 h;obtain⟨⟨f1,f2,f3⟩,h1,h⟩:=h;obtain⟨q,e1⟩:=HJ h1;cases e1;clear h1;replace h:=eR.1 h;obtain⟨_,h1,h⟩:=h;replace h:=eR.1 h;obtain⟨_,h2,h⟩:=h;obtain⟨r,e1⟩:=p9 h;exact⟨r,q,p,by have a:=kj h1;have b:=kj h2;dsimp only at a b e1 ⊢;rw[a,b,e1]⟩
def NK(l:List ExceptHandler):Option (Str×Str×Str×Str):=(Cv l).bind λhh=>(S0 hh).bind λu=>(JK u.1).bind λke=>(Cv u.2.2).bind λs4=>(wg s4).bind λb=>(JK b.2).bind λen'=>some (ke,u.2.1,b.1,en')
theorem U7{l:List ExceptHandler}{r:Str×Str×Str×Str}(h:NK l=some r):∃kp erp enp ap hp,l=[.ExceptHandler (some (.Name r.1 kp)) (some r.2.1) [.Assign [.Name r.2.2.1 erp] (.Name r.2.2.2 enp) ap] hp]:=by replace h:=eR.1 h;obtain⟨hh,h1,h⟩:=h;cases ki h1;clear h1;replace h:=eR.1 h;obtain⟨⟨u1,u2,u3⟩,h1,h⟩:=h;obtain⟨p,e1⟩:=HQ h1;cases e1;clear h1;replace h:=eR.1 h;obtain⟨ke,h1,h⟩:=h;obtain⟨q,e1⟩:=p9 h1;cases e1;clear h1;replace h:=eR.1 h;obtain⟨s4,h1,h⟩:=h;cases ki h1;clear h1;replace h:=eR.1 h;obtain⟨⟨b1,b2⟩,h1,h⟩:=h;obtain⟨m,n,e1⟩:=sE h1;cases e1;clear h1;replace h:=eR.1 h;obtain⟨en,h1,h⟩:=h;obtain⟨o,e1⟩:=p9 h1;cases e1;clear h1;cases h;exact⟨q,m,o,n,p,rfl⟩
def W4(s:Stmt):Option Str:=(wg s).bind λa=>(SJ a.2).bind λc=>(SM c).bind λ_=>some a.1
theorem U8(h:W4 s=some x):∃p j np ap,s=.Assign [.Name x p] (.Constant .none j np) ap:=by replace h:=eR.1 h;obtain⟨⟨a1,a2⟩,h1,h⟩:=h;obtain⟨p,q,e1⟩:=sE h1;cases e1;clear h1;replace h:=eR.1 h;obtain⟨c,h1,h⟩:=h;obtain⟨j,m,e1⟩:=HB h1;cases e1;clear h1;replace h:=eR.1 h;obtain⟨_,h1,h⟩:=h;cases HD h1;clear h1;cases h;exact⟨p,j,m,q,rfl⟩
def W5(s:Stmt):Option (Str×Str×Str×Str×Str):=(SX s).bind λt=>(Cw t.2.2.1).bind λ_=>(Cw t.2.2.2).bind λ_=>(NC t.1).bind λy=>(NK t.2.1).bind λu=>some (y,u)
theorem U9{s:Stmt}{r:Str×Str×Str×Str×Str}(h:W5 s=some r):∃l hs p,NC l=some r.1/\NK hs=some r.2/\s=.Try l hs [] [] p:=by replace h:=eR.1 h;obtain⟨⟨t1,t2,t3,t4⟩,h1,h⟩:=h;obtain⟨p,e1⟩:=HN h1;cases e1;clear h1;replace h:=eR.1 h;obtain⟨_,h1,h⟩:=h;cases kj h1;clear h1;replace h:=eR.1 h;obtain⟨_,h1,h⟩:=h;cases kj h1;clear h1;replace h:=eR.1 h;obtain⟨y,h1,h⟩:=h;replace h:=eR.1 h;obtain⟨u,h2,h⟩:=h;cases h;exact⟨t1,t2,p,h1,h2,rfl⟩
inductive fY(P:Pg)(R:Ct->Expr->Ex->Prop)(c:Ct):Expr->Ex->Prop
 |int {i:Int}{j:Nat}{pos:Pos}:fY P R c (.Constant (.int i) j pos) (.val (.int i))
 |bool:fY P R c (.Constant (.bool i) j pos) (.val (.bl i))
 |none {j:Nat}{pos:Pos}:fY P R c (.Constant .none j pos) (.val .non)
 |str:fY P R c (.Constant (.str i) j pos) (.val (.str i))
 |var {x:Str}{i:Nat}{pos:Pos}:c.N[i]?=some x->p8 c.sc x=true->cL x=true->fY P R c (.Name x pos) (.slot i)
 |glob {x:Str}{d:D}{pos:Pos}:(x,d)∈P.ct->c.sc.names.lookup x=some .globalImplicit->fY P R c (.Name x pos) (.val d)
 |bin {a b:Expr}{xa xb:Ex}{op:Operator}{pos:Pos}:R c a xa->R c b xb->fY P R c (.BinOp a op b pos) (.bin op xa xb)
 |cmp {a b:Expr}{xa xb:Ex}{op:CmpOp}{pos:Pos}:R c a xa->R c b xb->behindInMarks op b=false->fY P R c (.Compare a [op] [b] pos) (.cmp op xa xb)
 |chain {a b1 b2:Expr}{bs:List Expr}{xa x1 x2:Ex}{xs:List Ex}{GC GD:CmpOp}{ops:List CmpOp}{pos:Pos}:R c a xa->g9 (R c) (b1::b2::bs) (x1::x2::xs)->lastMarks (GC::GD::ops) (b1::b2::bs)=false->fY P R c (.Compare a (GC::GD::ops) (b1::b2::bs) pos) (.chain xa (GC::GD::ops) (x1::x2::xs))
 |neg {a:Expr}{xa:Ex}{pos:Pos}:R c a xa->fY P R c (.UnaryOp .USub a pos) (.neg xa)
 |not {a:Expr}{xa:Ex}{pos:Pos}:R c a xa->fY P R c (.UnaryOp .Not a pos) (.not xa)
 |and {es:List Expr}{xs:List Ex}{pos:Pos}:g9 (R c) es xs->fY P R c (.BoolOp .And es pos) (.and xs)
 |or {es:List Expr}{xs:List Ex}{pos:Pos}:g9 (R c) es xs->fY P R c (.BoolOp .Or es pos) (.or xs)
 |ite {t a b:Expr}{xt xa xb:Ex}{pos:Pos}:R c t xt->R c a xa->R c b xb->fY P R c (.IfExp t a b pos) (.ite xt xa xb)
 |tup {es:List Expr}{xs:List Ex}{k:Nat}{pos:Pos}:g9 (R c) es xs->fY P R c (.Tuple es k pos) (.tup xs)
 |lst {es:List Expr}{xs:List Ex}{pos:Pos}:g9 (R c) es xs->fY P R c (.List es pos) (.lst xs)
 |ix {a b:Expr}{xa xb:Ex}{pos:Pos}:R c a xa->R c b xb->fY P R c (.Subscript a b pos) (.ix xa xb)
 |slice {a:Expr}{lo hi:Option Expr}{xa:Ex}{xl xh:Option Ex}{p2 pos:Pos}:R c a xa->yz (R c) lo xl->yz (R c) hi xh->fY P R c (.Subscript a (.Slice lo hi Option.none p2) pos) (.slice xa xl xh)
 |call {x:Str}{f:Nat}{fi:Fi}{e:Expr}{es:List Expr}{xs:List Ex}{p pos:Pos}:P.fn[f]?=some fi->fi.name=x->c.sc.names.lookup x=some .globalImplicit->g9 (R c) (e::es) xs->fY P R c (.Call (.Name x p) (e::es) [] pos) (.call f xs)
 |blt {x:Str}{b:Bl}{e:Expr}{es:List Expr}{xs:List Ex}{p pos:Pos}:(Sx b).1=x->x∈P.bn->c.sc.names.lookup x=some .globalImplicit->g9 (R c) (e::es) xs->fY P R c (.Call (.Name x p) (e::es) [] pos) (.blt b xs)
 |jV {a:Expr}{xa:Ex}{T:Str}{n:String}{p pT pos:Pos}:R c a xa->("isinstance":Str)∈P.bn->c.sc.names.lookup ("isinstance":Str)=some .globalImplicit->T∈P.bn->c.sc.names.lookup T=some .globalImplicit->T=Str.ofString n->n∈mX->fY P R c (.Call (.Name "isinstance" p) [a,.Name T pT] [] pos) (.jV xa n)
 |mV {a:Expr}{xa:Ex}{es:List Expr}{ns:List String}{k:Nat}{p pT pos:Pos}:R c a xa->("isinstance":Str)∈P.bn->c.sc.names.lookup ("isinstance":Str)=some .globalImplicit->ns.length<=100->
   uX P c es ns->fY P R c (.Call (.Name "isinstance" p) [a,.Tuple es k pT] [] pos) (.mV xa ns)
 |rev {a:Expr}{xa:Ex}{j:Nat}{p1 p2 p3 pos:Pos}:R c a xa->fY P R c (.Subscript a (.Slice none none (some (m1 j p1 p3)) p2) pos) (.rev xa)
 |emp {pos:Pos}:fY P R c (.Dict [] [] pos) .emp
 |comp {tg iter iC:Expr}{ifs:List Expr}{scope:Scope}{N':List Str}{k:Nat}{T:Tg}{it xe:Ex}{co:Option Ex}{pos:Pos}:Cq c.sc scope=true->lP c.N N' scope k=true->N'.Nodup->Cr ⟨N',scope,false,Str.empty⟩ tg T->(∀i∈T.ix,c.N.length<=i/\i<c.N.length+k)->
   mY P (R c) c iter it->sD (R ⟨N',scope,false,Str.empty⟩) ifs co->R ⟨N',scope,false,Str.empty⟩ iC xe->fY P R c (.ListComp iC [⟨tg,iter,ifs,0⟩] scope pos) (.comp c.N.length k T it co xe)
 |iT {tg iter vx:Expr}{JL:List Expr}{scope:Scope}{N':List Str}{k kk:Nat}{T:Tg}{it xv:Ex}{ks:List Ex}{kp pos:Pos}:Cq c.sc scope=true->lP c.N N' scope k=true->N'.Nodup->Cr ⟨N',scope,false,Str.empty⟩ tg T->(∀i∈T.ix,c.N.length<=i/\i<c.N.length+k)->
   mY P (R c) c iter it->g9 (R ⟨N',scope,false,Str.empty⟩) JL ks->R ⟨N',scope,false,Str.empty⟩ vx xv->fY P R c (.DictComp (.Tuple JL kk kp) vx [⟨tg,iter,[],0⟩] scope pos) (.iT c.N.length k T it ks xv)
 |fM {a:Expr}{xa:Ex}{lp p rp pos:Pos}:R c a xa->("range":Str)∈P.bn->c.sc.names.lookup ("range":Str)=some .globalImplicit->("list":Str)∈P.bn->c.sc.names.lookup ("list":Str)=some .globalImplicit->fY P R c (.Call (.Name "list" lp) [.Call (.Name "range" p) [a] [] rp] [] pos) (.fM xa)
 |sset {a:Expr}{xa:Ex}{p p2 pos2 pos:Pos}:R c a xa->("sorted":Str)∈P.bn->c.sc.names.lookup ("sorted":Str)=some .globalImplicit->("set":Str)∈P.bn->c.sc.names.lookup ("set":Str)=some .globalImplicit->fY P R c (.Call (.Name "sorted" p) [.Call (.Name "set" p2) [a] [] pos2] [] pos) (.sset xa)
 |append {x:Str}{i:Nat}{e:Expr}{xe:Ex}{pn eW bM:Pos}:c.N[i]?=some x->p8 c.sc x=true->cL x=true->R c e xe->(eW.endLine==bM.line)=true->fY P R c (.Call (.Attribute (.Name x pn) "append" eW) [e] [] bM) (.append i xe)
 |extend {x:Str}{i:Nat}{e:Expr}{xe:Ex}{pn eW bM:Pos}:c.N[i]?=some x->p8 c.sc x=true->cL x=true->R c e xe->(eW.endLine==bM.line)=true->fY P R c (.Call (.Attribute (.Name x pn) "extend" eW) [e] [] bM) (.extend i xe)
 |fO {x:Str}{i:Nat}{e:Expr}{xe:Ex}{pn eW bM:Pos}:c.N[i]?=some x->p8 c.sc x=true->cL x=true->R c e xe->(eW.endLine==bM.line)=true->fY P R c (.Call (.Attribute (.Name x pn) "pop" eW) [e] [] bM) (.fO i xe)
abbrev p0:Pos:=⟨0,0,0,0⟩
inductive NP(P:Pg)(R:Expr->Ex->Prop)(RS:Stmt->Sm->Prop)(c:Ct):List Stmt->Sm->Prop
inductive lQ(RG:List Stmt->Sm->Prop)(RS:Stmt->Sm->Prop):List Stmt->List Sm->Prop
 |nil:lQ RG RS [] []
 |grp {ss rest:List Stmt}{x:Sm}{xs:List Sm}:RG ss x->lQ RG RS rest xs->lQ RG RS (ss++rest) (x::xs)
 |cons {s:Stmt}{ss:List Stmt}{x:Sm}{xs:List Sm}:RS s x->lQ RG RS ss xs->lQ RG RS (s::ss) (x::xs)
noncomputable def jX(k:Scope->Pos->Bool)(e:Expr):Bool:=match e with |.ListComp _ _ s p=>k s p |.DictComp ..=>true |_=>false
inductive jy(P:Pg)(R:Expr->Ex->Prop)(RS:Stmt->Sm->Prop)(c:Ct):Stmt->Sm->Prop
 |ret {e:Expr}{x:Ex}{pos:Pos}:R e x->jy P R RS c (.Return (some e) pos) (.ret x)
 |expr {e:Expr}{x:Ex}{pos:Pos}:R e x->jX (λ_ _=>true) e=false->jy P R RS c (.Expr e pos) (.expr x)
 |set {y:Str}{i:Nat}{e:Expr}{x:Ex}{py pos:Pos}:c.N[i]?=some y->jW c y=true->R e x->jX (λs p=>NB c y py p s) e=false->jy P R RS c (.Assign [.Name y py] e pos) (.set i x)
 |setC {y:Str}{i:Nat}{a:Expr}{b:List Comprehension}{s:Scope}{p:Pos}{n kk:Nat}{T:Tg}{it:Ex}{co:Option Ex}{x:Ex}{py pos:Pos}:c.N[i]?=some y->NB c y py p s=true->R (.ListComp a b s p) (.comp n kk T it co x)->jy P R RS c (.Assign [.Name y py] (.ListComp a b s p) pos) (.setC i (.comp n kk T it co x))
 |tgt {es:List Expr}{k:Nat}{pt pos:Pos}{T:Tg}{e:Expr}{x:Ex}:Cr c (.Tuple es k pt) T->R e x->(∀vs k p,e≠.Tuple vs k p)\/Hy c es e=true->jX (λ_ _=>true) e=false->jy P R RS c (.Assign [.Tuple es k pt] e pos) (.tgt T x)
 |item {y:Str}{i:Nat}{ix e:Expr}{xj x:Ex}{pn dw pos:Pos}:c.N[i]?=some y->p8 c.sc y=true->cL y=true->R ix xj->R e x->jX (λ_ _=>true) e=false->jy P R RS c (.Assign [.Subscript (.Name y pn) ix dw] e pos) (.item i xj x)
 |par {x y:Str}{i j:Nat}{a b:Expr}{xa xb:Ex}{px py pt vq pos:Pos}{kt k2:Nat}:c.N[i]?=some x->c.N[j]?=some y->i≠j->Hx c x y px py a b=true->R a xa->R b xb->jy P R RS c (.Assign [.Tuple [.Name x px,.Name y py] kt pt] (.Tuple [a,b] k2 vq) pos) (.par i j xa xb)
 |ite {t:Expr}{a b:List Stmt}{xt:Ex}{xa xb:List Sm}{pos:Pos}:R t xt->lQ (NP P R RS c) RS a xa->lQ (NP P R RS c) RS b xb->jy P R RS c (.If t a b pos) (.ite xt xa xb)
 |loop {tg iter:Expr}{T:Tg}{it:Ex}{b:List Stmt}{xb:List Sm}{pos:Pos}:Cr c tg T->mY P R c iter it->lQ (NP P R RS c) RS b xb->jy P R RS c (.For tg iter b [] pos) (.loop T it xb)
 |while {t:Expr}{xt:Ex}{b:List Stmt}{xb:List Sm}{pos:Pos}:R t xt->lQ (NP P R RS c) RS b xb->jy P R RS c (.While t b [] pos) (.while xt xb)
 |stuck {s:Stmt}:jy P R RS c s .stuck
theorem aj{a b:Bool}(h:(a&&b)=true):a=true/\b=true:=by cases a <;> cases b <;> first |exact⟨rfl,rfl⟩ |cases h
theorem dec{p:Prop} [Decidable p] (h:decide p=true):p:=nS h
theorem qa{b:Bool}(h:(!b)=true):b=false:=by cases b <;> first |rfl |cases h
noncomputable def W6(c:Ct)(x:Str):Bool:=decide (c.sc.names.lookup x=some .globalImplicit)
def yC(P:Pg)(c:Ct)(x:Str):Bool:=P.bn.contains x&&W6 c x
theorem aP{P:Pg}{c:Ct}{x:Str}(h:yC P c x=true):x∈P.bn/\c.sc.names.lookup x=some .globalImplicit:=⟨A4.mp (aj h).1,dec (aj h).2⟩
noncomputable def nm(c:Ct)(i:Nat):Str:=c.N.getD i Str.empty
def yD(c:Ct)(i:Nat):Bool:=decide (c.N[i]?=some (nm c i))&&(p8 c.sc (nm c i)&&cL (nm c i))
def Yw(c:Ct)(i:Nat):Bool:=decide (c.N[i]?=some (nm c i))&&jW c (nm c i)
theorem ie{c:Ct}{i:Nat}(h:yD c i=true):c.N[i]?=some (nm c i)/\p8 c.sc (nm c i)=true/\cL (nm c i)=true:=⟨dec (aj h).1,(aj (aj h).2).1,(aj (aj h).2).2⟩
def bang(x:Str):Str:=⟨x.cps.push 33⟩
def S3(n:Nat):Str:=⟨(List.replicate n 33).toArray⟩
noncomputable def Cy(scope:Scope):List Str:=scope.names.filterMap λy=>if y.2==.local then some y.1 else none
def Cz(N:List Str)(scope:Scope):List Str:=(N.map λy=>if scope.names.lookup y==some .local then bang y else y)++Cy scope++[S3 (N.length+1)]
noncomputable def qc:List Str->Bool
 | []=>true
 |x::l=>!l.contains x&&qc l
theorem jz:∀{l:List Str},qc l=true->l.Nodup
 | [],_=>wT
 |x::l,h=>by
  have h:(!l.contains x&&qc l)=true:=h;refine i3.mpr ⟨λhm=>?_,jz (aj h).2⟩
  have:=(aj h).1;rw[A4.mpr hm]at this;cases this
noncomputable def kids(e:Expr):List Expr:=match e with
 |.BoolOp _ vs _=>vs
 |.BinOp a _ b _=>[a,b]
 |.UnaryOp _ a _=>[a]
 |.Lambda _ b _ _=>[b]
 |.IfExp t a b _=>[t,a,b]
 |.ListComp e gs _ _=>e::gs.flatMap λg=>g.target::g.iter::g.ifs
 |.DictComp e v gs _ _=>e::v::gs.flatMap λg=>g.target::g.iter::g.ifs
 |.Compare a _ bs _=>a::bs
 |.Call f as ks _=>f::(as++ks.map (·.value))
 |.FormattedValue v _ _ _=>[v]
 |.JoinedStr vs _=>vs
 |.Attribute v _ _=>[v]
 |.Subscript a b _=>[a,b]
 |.List es _=>es
 |.Tuple es _ _=>es
 |.Slice a b s p=>[a.getD (.Name Str.empty p),b.getD (.Name Str.empty p),s.getD (.Name Str.empty p)]
 |_=>[]
def kid(e:Expr)(i:Nat):Expr:=(kids e).getD i e
noncomputable def sF(e:Expr):Nat:=match e with |.Constant _ k _=>k |.Tuple _ k _=>k |_=>0
noncomputable def qg(e:Expr):Scope:=match e with |.Lambda _ _ s _=>s |.ListComp _ _ s _=>s |.DictComp _ _ _ s _=>s |_=>aJ (.Pass e.pos)
def wj(c:Ct)(t:Expr):Ct:=⟨Cz c.N (qg t),qg t,false,Str.empty⟩
noncomputable def HR(P:Pg)(i:Nat):Str:=match P.fn[i]? with |some fi=>fi.name |none=>Str.empty
theorem HS{P:Pg}{i:Nat}(h:P.fn[i]?.isSome=true):∃fi,P.fn[i]?=some fi/\fi.name=HR P i:=by
 unfold HR;cases e:P.fn[i]? with
 |none=>rw[e]at h;cases h
 |some g=>exact⟨g,rfl,rfl⟩
section
variable{R:Expr->Ex->Prop}{s:Ex->Expr->Expr}{f:Ex->Expr->Bool}(hf:∀{x t},f x t=true->R (s x t) x)
include hf
noncomputable def lR(s:Ex->Expr->Expr)(t:Expr):Nat->List Ex->List Expr
 |_,[]=>[]
 |i,x::xs=>s x (kid t i)::lR s t (i+1) xs
noncomputable def Ei(f:Ex->Expr->Bool)(t:Expr):Nat->List Ex->Bool
 |_,[]=>true
 |i,x::xs=>f x (kid t i)&&Ei f t (i+1) xs
theorem fT{i:Nat}{xs:List Ex}(h:Ei f t i xs=true):g9 R (lR s t i xs) xs:=by
 induction xs generalizing i with
 |nil=>exact .nil
 |cons x xs ih=>exact .cons (hf (aj h).1) (ih (aj h).2)
noncomputable def NQ(s:Ex->Expr->Expr)(t:Expr)(x:Option Ex):Option Expr:=match x with |some x=>some (s x t) |none=>none
noncomputable def S4(f:Ex->Expr->Bool)(t:Expr)(x:Option Ex):Bool:=match x with |some x=>f x t |none=>true
theorem CG{x:Option Ex}(h:S4 f t x=true):yz R (NQ s t x) x:=by
 cases x with
 |none=>exact .none
 |some x=>exact .some (hf h)
noncomputable def S5(s:Ex->Expr->Expr)(t:Expr)(x:Option Ex):List Expr:=match x with |some x=>[s x t] |none=>[]
theorem NR{x:Option Ex}(h:S4 f t x=true):sD R (S5 s t x) x:=by
 cases x with
 |none=>exact .none
 |some x=>exact .some (hf h)
end
noncomputable def HW(s:Ex->Expr->Expr)(x:Ex)(t:Expr):Expr:=match x with
 |.dP a=>.Call (.Name "range" (kid t 0).pos) [s a (kid t 1)] [] t.pos
 |.fy a b=>.Call (.Name "range" (kid t 0).pos) [s a (kid t 1),s b (kid t 2)] [] t.pos
 |.zip a b=>.Call (.Name "zip" (kid t 0).pos) [s a (kid t 1),s b (kid t 2)] [] t.pos
 |x=>s x t
def Va(P:Pg)(c:Ct)(f:Ex->Expr->Bool)(x:Ex)(t:Expr):Bool:=match x with
 |.dP a=>yC P c "range" && f a (kid t 1)
 |.fy a b=>yC P c "range" && (f a (kid t 1)&&f b (kid t 2))
 |.zip a b=>yC P c "zip" && (f a (kid t 1)&&f b (kid t 2))
 |x=>f x t
theorem uY{P:Pg}{R:Expr->Ex->Prop}{s:Ex->Expr->Expr}{f:Ex->Expr->Bool}(hf:∀{x t},f x t=true->R (s x t) x){c:Ct}{x:Ex}{t:Expr}(h:Va P c f x t=true):mY P R c (HW s x t) x:=by
 cases x
 case dP a=>exact .dP (hf (aj h).2) (aP (aj h).1).1 (aP (aj h).1).2
 case fy a b=>exact .fy (hf (aj (aj h).2).1) (hf (aj (aj h).2).2) (aP (aj h).1).1 (aP (aj h).1).2
 case zip a b=>exact .zip (hf (aj (aj h).2).1) (hf (aj (aj h).2).2) (aP (aj h).1).1 (aP (aj h).1).2
 all_goals exact .seq (hf h)
noncomputable def NT(t:Expr):Nat->List String->List Expr
 |_,[]=>[]
 |i,n::ns=>.Name (Str.ofString n) (kid t i).pos::NT t (i+1) ns
def W7(P:Pg)(c:Ct):List String->Bool
 | []=>true
 |n::ns=>(mX.contains n&&yC P c (Str.ofString n))&&W7 P c ns
theorem NX{P:Pg}{c:Ct}{t:Expr}{i:Nat}{ns:List String}(h:W7 P c ns=true):uX P c (NT t i ns) ns:=by
 induction ns generalizing i with
 |nil=>exact .nil
 |cons n ns ih=>exact .cons (aP (aj (aj h).1).2).1 (aP (aj (aj h).1).2).2 rfl (A4.mp (aj (aj h).1).1) (ih (aj h).2)
noncomputable def HX(c:Ct)(t:Expr):Nat->List Nat->List Expr
 |_,[]=>[]
 |j,i::is=>.Name (nm c i) (kid t j).pos::HX c t (j+1) is
def okN(c:Ct):List Nat->Bool
 | []=>true
 |i::is=>Yw c i&&okN c is
theorem NZ{c:Ct}{t:Expr}{j:Nat}{is:List Nat}(h:okN c is=true):yy c (HX c t j is) is:=by
 induction is generalizing j with
 |nil=>exact .nil
 |cons i is ih=>exact .cons (dec (aj (aj h).1).1) (aj (aj h).1).2 (ih (aj h).2)
def CJ(c:Ct)(T:Tg)(t:Expr):Expr:=match T with
 |.nm i=>.Name (nm c i) t.pos
 |.tp is=>.Tuple (HX c t 0 is) (sF t) t.pos
theorem qh{c:Ct}{T:Tg}{t:Expr}(h:okN c T.ix=true):Cr c (CJ c T t) T:=by
 cases T with
 |nm i=>exact .nm (dec (aj (aj h).1).1) (aj (aj h).1).2
 |tp is=>exact .tp (NZ h)
noncomputable def N1(a b:D):Bool:=match a with |.int i=>(match b with |.int j=>decide (i=j) |_=>false) |_=>false
theorem HY(h:N1 a b=true):a=b:=by
 cases a with
 |int i=>cases b with
  |int j=>exact congrArg D.int (dec (show decide (i=j)=true from h))
  |_=>exact nt h
 |_=>exact nt h
def Vb(y:Str)(d:D):List (Str×D)->Bool
 | []=>false
 |p::l=>(decide (p.1=y)&&N1 p.2 d)||Vb y d l
theorem N2{y:Str}{d:D}{l:List (Str×D)}(h:Vb y d l=true):(y,d)∈l:=by
 induction l with
 |nil=>cases h
 |cons p l ih=>
  obtain⟨x,d'⟩:=p;have hh:((decide (x=y)&&N1 d' d)||Vb y d l)=true:=h
  rcases x5 _ _▸hh with h |h
  . obtain⟨h1,h2⟩:=aj h;obtain rfl:=dec h1;rw[HY h2];exact dC
  . exact b0 _ (ih h)
noncomputable def W8(d:D):Const:=match d with |.int i=>.int i |.bl b=>.bool b |.str y=>.str y |_=>.none
noncomputable def W9(d:D):Bool:=match d with |.int _=>true |.bl _=>true |.str _=>true |.non=>true |_=>false
def CK(d:D)(t:Expr):Expr:=match JK t with |some y=>.Name y t.pos |none=>.Constant (W8 d) (sF t) t.pos
def Xa(P:Pg)(c:Ct)(d:D)(t:Expr):Bool:=match JK t with |some y=>W6 c y&&Vb y d P.ct |none=>W9 d
theorem N3{P:Pg}{R:Ct->Expr->Ex->Prop}{c:Ct}{d:D}{t:Expr}(h:Xa P c d t=true):fY P R c (CK d t) (.val d):=by
 unfold Xa at h;unfold CK;cases e:JK t with
 |some y=>rw[e]at h;exact .glob (N2 (aj h).2) (dec (aj h).1)
 |none=>
  rw[e]at h;cases d with
  |int i=>exact .int
  |bl i=>exact .bool
  |str i=>exact .str
  |non=>exact .none
  |_=>exact nt h
def Yx(c:Ct)(t:Expr)(k:Nat):Bool:=Cq c.sc (qg t)&&(lP c.N (Cz c.N (qg t)) (qg t) k&&qc (Cz c.N (qg t)))
def Xc(c:Ct)(k:Nat)(T:Tg):Bool:=T.ix.all λi=>decide (c.N.length<=i/\i<c.N.length+k)
theorem CN{c:Ct}{k:Nat}{T:Tg}(h:Xc c k T=true):∀i∈T.ix,c.N.length<=i/\i<c.N.length+k:=λi hi=>dec (AO.mp h i hi)
def o1(x:Option Ex):Nat:=match x with |some _=>1 |none=>0
def N4(P:Pg)(s:Ct->Ex->Expr->Expr)(c:Ct)(x:Ex)(t:Expr):Expr:=match x with
 |.val d=>CK d t
 |.slot i=>.Name (nm c i) t.pos
 |.bin op a b=>.BinOp (s c a (kid t 0)) op (s c b (kid t 1)) t.pos
 |.cmp op a b=>.Compare (s c a (kid t 0)) [op] [s c b (kid t 1)] t.pos
 |.chain a ops xs=>.Compare (s c a (kid t 0)) ops (lR (s c) t 1 xs) t.pos
 |.neg a=>.UnaryOp .USub (s c a (kid t 0)) t.pos
 |.not a=>.UnaryOp .Not (s c a (kid t 0)) t.pos
 |.and xs=>.BoolOp .And (lR (s c) t 0 xs) t.pos
 |.or xs=>.BoolOp .Or (lR (s c) t 0 xs) t.pos
 |.ite a b d=>.IfExp (s c a (kid t 0)) (s c b (kid t 1)) (s c d (kid t 2)) t.pos
 |.tup xs=>.Tuple (lR (s c) t 0 xs) (sF t) t.pos
 |.lst xs=>.List (lR (s c) t 0 xs) t.pos
 |.ix a b=>.Subscript (s c a (kid t 0)) (s c b (kid t 1)) t.pos
 |.slice a lo hi=>.Subscript (s c a (kid t 0)) (.Slice (NQ (s c) (kid (kid t 1) 0) lo) (NQ (s c) (kid (kid t 1) 1) hi) none (kid t 1).pos) t.pos
 |.call i xs=>.Call (.Name (HR P i) (kid t 0).pos) (lR (s c) t 1 xs) [] t.pos
 |.blt b xs=>.Call (.Name (Sx b).1 (kid t 0).pos) (lR (s c) t 1 xs) [] t.pos
 |.jV a n=>.Call (.Name "isinstance" (kid t 0).pos) [s c a (kid t 1),.Name (Str.ofString n) (kid t 2).pos] [] t.pos
 |.mV a ns=>.Call (.Name "isinstance" (kid t 0).pos) [s c a (kid t 1),.Tuple (NT (kid t 2) 0 ns) (sF (kid t 2)) (kid t 2).pos] [] t.pos
 |.comp _ _ T it co xe=>.ListComp (s (wj c t) xe (kid t 0)) [⟨CJ (wj c t) T (kid t 1),HW (s c) it (kid t 2),S5 (s (wj c t)) (kid t 3) co,0⟩] (qg t) t.pos
 |.iT _ _ T it ks xv=>.DictComp (.Tuple (lR (s (wj c t)) (kid t 0) 0 ks) (sF (kid t 0)) (kid t 0).pos) (s (wj c t) xv (kid t 1)) [⟨CJ (wj c t) T (kid t 2),HW (s c) it (kid t 3),[],0⟩] (qg t) t.pos
 |.rev a=>.Subscript (s c a (kid t 0)) (.Slice none none (some (m1 (sF (kid (kid (kid t 1) 2) 0)) (kid (kid (kid t 1) 2) 0).pos (kid (kid t 1) 2).pos)) (kid t 1).pos) t.pos
 |.emp=>.Dict [] [] t.pos
 |.fM a=>.Call (.Name "list" (kid t 0).pos) [.Call (.Name "range" (kid (kid t 1) 0).pos) [s c a (kid (kid t 1) 1)] [] (kid t 1).pos] [] t.pos
 |.sset a=>.Call (.Name "sorted" (kid t 0).pos) [.Call (.Name "set" (kid (kid t 1) 0).pos) [s c a (kid (kid t 1) 1)] [] (kid t 1).pos] [] t.pos
 |.append i x=>.Call (.Attribute (.Name (nm c i) (kid (kid t 0) 0).pos) "append" (kid t 0).pos) [s c x (kid t 1)] [] t.pos
 |.extend i x=>.Call (.Attribute (.Name (nm c i) (kid (kid t 0) 0).pos) "extend" (kid t 0).pos) [s c x (kid t 1)] [] t.pos
 |.fO i x=>.Call (.Attribute (.Name (nm c i) (kid (kid t 0) 0).pos) "pop" (kid t 0).pos) [s c x (kid t 1)] [] t.pos
 |_=>t
noncomputable def Xd(t:Expr):Bool:=(kid t 0).pos.endLine==t.pos.line
def Xe(P:Pg)(s:Ct->Ex->Expr->Expr)(f:Ct->Ex->Expr->Bool)(c:Ct)(x:Ex)(t:Expr):Bool:=match x with
 |.val d=>Xa P c d t
 |.slot i=>yD c i
 |.bin _ a b=>f c a (kid t 0)&&f c b (kid t 1)
 |.cmp op a b=>f c a (kid t 0)&&(f c b (kid t 1)&&!behindInMarks op (s c b (kid t 1)))
 |.chain a ops xs=>f c a (kid t 0)&&(Ei (f c) t 1 xs&&(!lastMarks ops (lR (s c) t 1 xs)&&(decide (2<=ops.length)&&decide (2<=xs.length))))
 |.neg a=>f c a (kid t 0)
 |.not a=>f c a (kid t 0)
 |.and xs=>Ei (f c) t 0 xs
 |.or xs=>Ei (f c) t 0 xs
 |.ite a b d=>f c a (kid t 0)&&(f c b (kid t 1)&&f c d (kid t 2))
 |.tup xs=>Ei (f c) t 0 xs
 |.lst xs=>Ei (f c) t 0 xs
 |.ix a b=>f c a (kid t 0)&&f c b (kid t 1)
 |.slice a lo hi=>f c a (kid t 0)&&(S4 (f c) (kid (kid t 1) 0) lo&&S4 (f c) (kid (kid t 1) 1) hi)
 |.call i xs=>P.fn[i]?.isSome&&(W6 c (HR P i)&&(Ei (f c) t 1 xs&&!xs.isEmpty))
 |.blt b xs=>yC P c (Sx b).1&&(Ei (f c) t 1 xs&&!xs.isEmpty)
 |.jV a n=>yC P c "isinstance" && (f c a (kid t 1)&&(mX.contains n&&yC P c (Str.ofString n)))
 |.mV a ns=>yC P c "isinstance" && (f c a (kid t 1)&&(decide (ns.length<=100)&&W7 P c ns))
 |.iT n k T it ks xv=>decide (n=c.N.length)&&(Yx c t k&&(okN (wj c t) T.ix&&(Xc c k T&&(Va P c (f c) it (kid t 3)&&(Ei (f (wj c t)) (kid t 0) 0 ks&&f (wj c t) xv (kid t 1))))))
 |.comp n k T it co xe=>decide (n=c.N.length)&&(Yx c t k&&(okN (wj c t) T.ix&&(Xc c k T&&(Va P c (f c) it (kid t 2)&&(S4 (f (wj c t)) (kid t 3) co&&f (wj c t) xe (kid t 0))))))
 |.rev a=>f c a (kid t 0)
 |.emp=>true
 |.fM a=>(yC P c "range" && yC P c "list")&&f c a (kid (kid t 1) 1)
 |.sset a=>(yC P c "sorted" && yC P c "set")&&f c a (kid (kid t 1) 1)
 |.append i x=>Xd t&&(yD c i&&f c x (kid t 1))
 |.extend i x=>Xd t&&(yD c i&&f c x (kid t 1))
 |.fO i x=>Xd t&&(yD c i&&f c x (kid t 1))
 |_=>false
def jd(P:Pg):Nat->Ct->Ex->Expr->Expr
 | 0=>λ_ _ t=>t
 |n+1=>N4 P (jd P n)
def sG(P:Pg):Nat->Ct->Ex->Expr->Bool
 | 0=>λ_ _ _=>false
 |n+1=>Xe P (jd P n) (sG P n)
def Cm(P:Pg)(c:Ct)(e:Expr)(x:Ex):Prop:=∃n t,e=jd P n c x t/\sG P n c x t=true
theorem Cm.mk{P:Pg}{n:Nat}{c:Ct}{x:Ex}{t:Expr}(h:sG P n c x t=true):Cm P c (jd P n c x t) x:=⟨n,t,rfl,h⟩
theorem Cm.out(h:Cm P c e x):fY P (Cm P) c e x:=by
 obtain⟨n,t,rfl,h⟩:=h;cases n with
 |zero=>cases h
 |succ n=>
 replace h:Xe P (jd P n) (sG P n) c x t=true:=h;show fY P (Cm P) c (N4 P (jd P n) c x t) x;cases x
 case val d=>exact N3 h
 case slot i=>exact .var (ie h).1 (ie h).2.1 (ie h).2.2
 case bin op a b=>exact .bin (.mk (aj h).1) (.mk (aj h).2)
 case cmp op a b=>exact .cmp (.mk (aj h).1) (.mk (aj (aj h).2).1) (qa (aj (aj h).2).2)
 case chain a ops xs=>
  obtain⟨h1,h2⟩:=aj h;obtain⟨h3,h4⟩:=aj h2;obtain⟨h5,h6⟩:=aj h4;have l1:=dec (aj h6).1;have l2:=dec (aj h6).2
  match ops,l1,xs,l2,h3,h5 with
  |_::_::_,_,_::_::_,_,h3,h5=>exact .chain (.mk h1) (fT (R:=Cm P c) .mk h3) (qa h5)
 case neg a=>exact .neg (.mk h)
 case not a=>exact .not (.mk h)
 case and xs=>exact .and (fT (R:=Cm P c) .mk h)
 case or xs=>exact .or (fT (R:=Cm P c) .mk h)
 case ite a b d=>exact .ite (.mk (aj h).1) (.mk (aj (aj h).2).1) (.mk (aj (aj h).2).2)
 case tup xs=>exact .tup (fT (R:=Cm P c) .mk h)
 case lst xs=>exact .lst (fT (R:=Cm P c) .mk h)
 case ix a b=>exact .ix (.mk (aj h).1) (.mk (aj h).2)
 case slice a lo hi=>exact .slice (.mk (aj h).1) (CG (R:=Cm P c) .mk (aj (aj h).2).1) (CG (R:=Cm P c) .mk (aj (aj h).2).2)
 case call i xs=>
  obtain⟨h1,h2⟩:=aj h;obtain⟨h3,h4⟩:=aj h2;obtain⟨fi,q1,q2⟩:=HS h1;cases xs with
  |nil=>cases (aj h4).2
  |cons x xs=>exact .call q1 q2 (dec h3) (fT (R:=Cm P c) .mk (aj h4).1)
 case blt b xs=>
  cases xs with
  |nil=>cases (aj (aj h).2).2
  |cons x xs=>exact .blt rfl (aP (aj h).1).1 (aP (aj h).1).2 (fT (R:=Cm P c) .mk (aj (aj h).2).1)
 case jV a n=>exact .jV (.mk (aj (aj h).2).1) (aP (aj h).1).1 (aP (aj h).1).2 (aP (aj (aj (aj h).2).2).2).1 (aP (aj (aj (aj h).2).2).2).2 rfl (A4.mp (aj (aj (aj h).2).2).1)
 case mV a ns=>exact .mV (.mk (aj (aj h).2).1) (aP (aj h).1).1 (aP (aj h).1).2 (dec (aj (aj (aj h).2).2).1) (NX (aj (aj (aj h).2).2).2)
 case comp n' k T it co xe=>obtain⟨h1,a1⟩:=aj h;clear h;obtain⟨h2,a2⟩:=aj a1;obtain⟨h3,a3⟩:=aj a2;obtain⟨h4,a4⟩:=aj a3;obtain⟨h5,a5⟩:=aj a4;obtain rfl:=dec h1;exact .comp (aj h2).1 (aj (aj h2).2).1 (jz (aj (aj h2).2).2) (qh h3) (CN h4) (uY (R:=Cm P c) .mk h5) (NR (R:=Cm P (wj c t)) .mk (aj a5).1) (.mk (aj a5).2)
 case iT n' k T it ks xv=>obtain⟨h1,a1⟩:=aj h;clear h;obtain⟨h2,a2⟩:=aj a1;obtain⟨h3,a3⟩:=aj a2;obtain⟨h4,a4⟩:=aj a3;obtain⟨h5,a5⟩:=aj a4;obtain rfl:=dec h1;exact .iT (aj h2).1 (aj (aj h2).2).1 (jz (aj (aj h2).2).2) (qh h3) (CN h4) (uY (R:=Cm P c) .mk h5) (fT (R:=Cm P (wj c t)) .mk (aj a5).1) (.mk (aj a5).2)
 case rev a=>exact .rev (.mk h)
 case emp=>exact .emp
 case fM a=>exact .fM (.mk (aj h).2) (aP (aj (aj h).1).1).1 (aP (aj (aj h).1).1).2 (aP (aj (aj h).1).2).1 (aP (aj (aj h).1).2).2
 case sset a=>exact .sset (.mk (aj h).2) (aP (aj (aj h).1).1).1 (aP (aj (aj h).1).1).2 (aP (aj (aj h).1).2).1 (aP (aj (aj h).1).2).2
 case append i x=>exact .append (ie (aj (aj h).2).1).1 (ie (aj (aj h).2).1).2.1 (ie (aj (aj h).2).1).2.2 (.mk (aj (aj h).2).2) (aj h).1
 case extend i x=>exact .extend (ie (aj (aj h).2).1).1 (ie (aj (aj h).2).1).2.1 (ie (aj (aj h).2).1).2.2 (.mk (aj (aj h).2).2) (aj h).1
 case fO i x=>exact .fO (ie (aj (aj h).2).1).1 (ie (aj (aj h).2).1).2.1 (ie (aj (aj h).2).1).2.2 (.mk (aj (aj h).2).2) (aj h).1
 all_goals exact nt h
abbrev yE (P:Pg) (c:Ct) (es:List Expr) (xs:List Ex):Prop:=g9 (Cm P c) es xs
abbrev CmO (P:Pg) (c:Ct) (e:Option Expr) (x:Option Ex):Prop:=yz (Cm P c) e x
abbrev N5 (P:Pg) (c:Ct) (es:List Expr) (x:Option Ex):Prop:=sD (Cm P c) es x
abbrev Vc (P:Pg) (c:Ct) (e:Expr) (x:Ex):Prop:=mY P (Cm P c) c e x
noncomputable def ek(t:Stmt):List Expr:=match t with
 |.Return o p=>[o.getD (.Name Str.empty p)]
 |.Assign ts e _=>e::ts
 |.AugAssign a _ e _=>[a,e]
 |.For a b _ _ _=>[a,b]
 |.While a _ _ _=>[a]
 |.If a _ _ _=>[a]
 |.Raise o _ p=>[o.getD (.Name Str.empty p)]
 |.Expr e _=>[e]
 |_=>[]
def aN(t:Stmt)(i:Nat):Expr:=(ek t).getD i (.Name Str.empty t.pos)
noncomputable def Qi(t:Stmt):List Stmt:=match t with |.For _ _ b _ _=>b |.While _ b _ _=>b |.If _ b _ _=>b |_=>[]
noncomputable def Yy(t:Stmt):List Stmt:=match t with |.If _ _ b _=>b |_=>[]
noncomputable def sg(l:List Stmt)(i:Nat):Stmt:=l.getD i (.Pass p0)
def S6(e:Expr):Bool:=match e with |.Tuple _ _ _=>false |_=>true
def N6:Sm->Nat
 |_=>0
def mZ(fg:Sm->List Stmt->List Stmt)(fs:Sm->Stmt->Stmt):List Sm->List Stmt->List Stmt
 | [],_=>[]
 |x::xs,ss=>if 0<N6 x then fg x (ss.take (N6 x))++mZ fg fs xs (ss.drop (N6 x))else fs x (sg ss 0)::mZ fg fs xs ss.tail
def Ej(fg:Sm->List Stmt->Bool)(fs:Sm->Stmt->Bool):List Sm->List Stmt->Bool
 | [],_=>true
 |x::xs,ss=>if 0<N6 x then fg x (ss.take (N6 x))&&Ej fg fs xs (ss.drop (N6 x))else fs x (sg ss 0)&&Ej fg fs xs ss.tail
theorem N7{RG:List Stmt->Sm->Prop}{RS:Stmt->Sm->Prop}{Yz:Sm->List Stmt->List Stmt}{kg:Sm->List Stmt->Bool}{ss':Sm->Stmt->Stmt}{ks:Sm->Stmt->Bool}(hg:∀{x ss},kg x ss=true->RG (Yz x ss) x)(hs:∀{x t},ks x t=true->RS (ss' x t) x){xs:List Sm}{ss:List Stmt}(h:Ej kg ks xs ss=true):lQ RG RS (mZ Yz ss' xs ss) xs:=by
 induction xs generalizing ss with
 |nil=>exact .nil
 |cons x xs ih=>
  unfold Ej at h;unfold mZ;by_cases hx:0<N6 x
  .
   rw[fN hx]at h ⊢
   exact .grp (hg (aj h).1) (ih (aj h).2)
  .
   rw[fI hx]at h ⊢
   exact .cons (hs (aj h).1) (ih (aj h).2)
noncomputable def N8(P:Pg)(m:Nat)(fs:Sm->Stmt->Stmt)(c:Ct)(x:Sm)(ss:List Stmt):List Stmt:=match x with
 |_=>ss
noncomputable def N9(P:Pg)(m:Nat)(ks:Sm->Stmt->Bool)(c:Ct)(x:Sm)(ss:List Stmt):Bool:=match x with
 |_=>false
theorem Oa{P:Pg}{m:Nat}{RS:Stmt->Sm->Prop}{fs:Sm->Stmt->Stmt}{ks:Sm->Stmt->Bool}(hs:∀{x t},ks x t=true->RS (fs x t) x){c:Ct}{x:Sm}{ss:List Stmt}(h:N9 P m ks c x ss=true):NP P (Cm P c) RS c (N8 P m fs c x ss) x:=by
 cases x
 all_goals exact nt h
def S7(P:Pg)(m:Nat)(fs:Sm->Stmt->Stmt)(c:Ct)(x:Sm)(t:Stmt):Stmt:=match x with
 |.ret x=>.Return (some (jd P (m+1) c x (aN t 0))) t.pos
 |.expr x=>.Expr (jd P (m+1) c x (aN t 0)) t.pos
 |.set i x=>.Assign [.Name (nm c i) (aN t 1).pos] (jd P (m+1) c x (aN t 0)) t.pos
 |.setC i x=>.Assign [.Name (nm c i) (aN t 1).pos] (jd P (m+1) c x (aN t 0)) t.pos
 |.tgt T x=>.Assign [CJ c T (aN t 1)] (jd P (m+1) c x (aN t 0)) t.pos
 |.item i xj x=>.Assign [.Subscript (.Name (nm c i) (kid (aN t 1) 0).pos) (jd P (m+1) c xj (kid (aN t 1) 1)) (aN t 1).pos] (jd P (m+1) c x (aN t 0)) t.pos
 |.par i j a b=>.Assign [.Tuple [.Name (nm c i) (kid (aN t 1) 0).pos,.Name (nm c j) (kid (aN t 1) 1).pos] (sF (aN t 1)) (aN t 1).pos] (.Tuple [jd P (m+1) c a (kid (aN t 0) 0),jd P (m+1) c b (kid (aN t 0) 1)] (sF (aN t 0)) (aN t 0).pos) t.pos
 |.ite e a b=>.If (jd P (m+1) c e (aN t 0)) (mZ (N8 P m fs c) fs a (Qi t)) (mZ (N8 P m fs c) fs b (Yy t)) t.pos
 |.loop T it b=>.For (CJ c T (aN t 0)) (HW (jd P (m+1) c) it (aN t 1)) (mZ (N8 P m fs c) fs b (Qi t)) [] t.pos
 |.while e b=>.While (jd P (m+1) c e (aN t 0)) (mZ (N8 P m fs c) fs b (Qi t)) [] t.pos
 |_=>t
def S8(P:Pg)(m:Nat)(ks:Sm->Stmt->Bool)(c:Ct)(x:Sm)(t:Stmt):Bool:=match x with
 |.ret x=>sG P (m+1) c x (aN t 0)
 |.expr x=>sG P (m+1) c x (aN t 0)&&!jX (λ_ _=>true) (jd P (m+1) c x (aN t 0))
 |.set i x=>Yw c i&&(sG P (m+1) c x (aN t 0)&&!jX (λs p=>NB c (nm c i) (aN t 1).pos p s) (jd P (m+1) c x (aN t 0)))
 |.setC i x=>decide (c.N[i]?=some (nm c i))&&(NB c (nm c i) (aN t 1).pos (aN t 0).pos (qg (aN t 0))&&(sG P (m+1) c x (aN t 0)&&(match x with
  |.comp _ _ _ _ _ _=>true
  |_=>false)))
 |.tgt T x=>(match T with |.tp is=>S6 (jd P (m+1) c x (aN t 0))||Hy c (HX c (aN t 1) 0 is) (jd P (m+1) c x (aN t 0)) |_=>false)&&(okN c T.ix&&(sG P (m+1) c x (aN t 0)&&!jX (λ_ _=>true) (jd P (m+1) c x (aN t 0))))
 |.item i xj x=>yD c i&&(sG P (m+1) c xj (kid (aN t 1) 1)&&(sG P (m+1) c x (aN t 0)&&!jX (λ_ _=>true) (jd P (m+1) c x (aN t 0))))
 |.par i j a b=>decide (c.N[i]?=some (nm c i)/\c.N[j]?=some (nm c j)/\i≠j)&&(Hx c (nm c i) (nm c j) (kid (aN t 1) 0).pos (kid (aN t 1) 1).pos (jd P (m+1) c a (kid (aN t 0) 0)) (jd P (m+1) c b (kid (aN t 0) 1))&&(sG P (m+1) c a (kid (aN t 0) 0)&&sG P (m+1) c b (kid (aN t 0) 1)))
 |.ite e a b=>sG P (m+1) c e (aN t 0)&&(Ej (N9 P m ks c) ks a (Qi t)&&Ej (N9 P m ks c) ks b (Yy t))
 |.loop T it b=>okN c T.ix&&(Va P c (sG P (m+1) c) it (aN t 1)&&Ej (N9 P m ks c) ks b (Qi t))
 |.while e b=>sG P (m+1) c e (aN t 0)&&Ej (N9 P m ks c) ks b (Qi t)
 |.stuck=>true
def JM(P:Pg)(m:Nat):Nat->Ct->Sm->Stmt->Stmt
 | 0=>λ_ _ t=>t
 |n+1=>λc=>S7 P m (JM P m n c) c
def JN(P:Pg)(m:Nat):Nat->Ct->Sm->Stmt->Bool
 | 0=>λ_ _ _=>false
 |n+1=>λc=>S8 P m (JN P m n c) c
def Ek(P:Pg)(c:Ct)(s:Stmt)(x:Sm):Prop:=∃m n t,s=JM P m n c x t/\JN P m n c x t=true
abbrev CP (P:Pg) (c:Ct) (ss:List Stmt) (xs:List Sm):Prop:=lQ (NP P (Cm P c) (Ek P c) c) (Ek P c) ss xs
theorem Ek.mk{P:Pg}{m n:Nat}{c:Ct}{x:Sm}{t:Stmt}(h:JN P m n c x t=true):Ek P c (JM P m n c x t) x:=⟨m,n,t,rfl,h⟩
theorem CP.mk{P:Pg}{m n:Nat}{c:Ct}{xs:List Sm}{ss:List Stmt}(h:Ej (N9 P m (JN P m n c) c) (JN P m n c) xs ss=true):CP P c (mZ (N8 P m (JM P m n c) c) (JM P m n c) xs ss) xs:=N7 (Oa .mk) .mk h
theorem Xf{e:Expr}(h:(!jX (λ_ _=>true) e)=true):jX (λ_ _=>true) e=false:=qa h
theorem Ek.out{P:Pg}{c:Ct}{s:Stmt}{x:Sm}(h:Ek P c s x):jy P (Cm P c) (Ek P c) c s x:=by
 obtain⟨m,n,t,rfl,h⟩:=h;cases n with
 |zero=>cases h
 |succ n=>
 replace h:S8 P m (JN P m n c) c x t=true:=h;show jy P (Cm P c) (Ek P c) c (S7 P m (JM P m n c) c x t) x;cases x
 case ret x=>exact .ret (.mk h)
 case expr x=>exact .expr (.mk (aj h).1) (Xf (aj h).2)
 case set i x=>have w:=(aj (aj h).2).2;exact .set (dec (aj (aj h).1).1) (aj (aj h).1).2 (.mk (aj (aj h).2).1) (qa w)
 case setC i x=>
  obtain⟨h1,h2⟩:=aj h;clear h;obtain⟨h3,h4⟩:=aj h2;obtain⟨h5,h6⟩:=aj h4;cases x
  case comp n' kk T it co xe=>exact .setC (dec h1) h3 (.mk h5)
  all_goals exact Bool.noConfusion (show false=true from h6)
 case tgt T x=>
  obtain⟨h1,h2⟩:=aj h;clear h;obtain⟨h3,h4⟩:=aj h2;cases T with
  |nm i=>cases h1
  |tp is=>exact .tgt (qh h3) (.mk (aj h4).1) (((x5 _ _).mp h1).imp (λh vs k p q=>by rw[q]at h;cases h) id) (Xf (aj h4).2)
 case item i xj x=>exact .item (ie (aj h).1).1 (ie (aj h).1).2.1 (ie (aj h).1).2.2 (.mk (aj (aj h).2).1) (.mk (aj (aj (aj h).2).2).1) (Xf (aj (aj (aj h).2).2).2)
 case par i j a b=>exact .par (dec (aj h).1).1 (dec (aj h).1).2.1 (dec (aj h).1).2.2 (aj (aj h).2).1 (.mk (aj (aj (aj h).2).2).1) (.mk (aj (aj (aj h).2).2).2)
 case ite e a b=>exact .ite (.mk (aj h).1) (CP.mk (aj (aj h).2).1) (CP.mk (aj (aj h).2).2)
 case loop T it b=>exact .loop (qh (aj h).1) (uY (R:=Cm P c) .mk (aj (aj h).2).1) (CP.mk (aj (aj h).2).2)
 case «while» e b=>exact .while (.mk (aj h).1) (CP.mk (aj h).2)
 case stuck=>exact .stuck
 all_goals exact nt h
noncomputable def se(e:Expr):Bool:=match e with
 |.Constant .. |.Name .. |.BinOp .. |.Compare .. |.UnaryOp .. |.BoolOp .. |.IfExp .. |.Tuple .. |.List .. |.Subscript .. |.Call .. |.JoinedStr .. |.ListComp .. |.Dict .. |.DictComp ..=>true
 |_=>false
theorem Cm.se{P:Pg}{c:Ct}{e:Expr}{x:Ex}(h:Cm P c e x):se e=true:=by
 obtain⟨n,t,rfl,h⟩:=h;cases n with
 |zero=>cases h
 |succ n=>
 replace h:Xe P (jd P n) (sG P n) c x t=true:=h;show Ev.se (N4 P (jd P n) c x t)=true;cases x
 case val d=>show Ev.se (CK d t)=true;unfold CK;split <;> rfl
 all_goals first |rfl |exact nt h
section
theorem Cm.star(h:Cm P c e x)(es:List Expr):starEach (e::es) env=(false,eval e env)::starEach es env:=by have hs:=h.se;cases e <;> first |rfl |exact Bool.noConfusion (show false=true from hs)
theorem g9.star(h:yE P c es xs):starEach es env=es.map λe=>(false,eval e env):=by
 induction es generalizing xs with
 |nil=>rfl
 |cons e es ih=>
  cases h with
  |cons h1 h2=>rw[h1.star,ih h2];rfl
theorem g9.plain(h:yE P c es xs):(backTo pos (starEach es env)).any (·.1)=false:=by
 rw[h.star];unfold backTo
 induction es generalizing xs with
 |nil=>rfl
 |cons e es ih=>
  cases h with
  |cons h1 h2=>rw[List.map_cons,List.map_cons,List.any_cons,ih h2];rfl
theorem Cm.folded(h:Cm P c e x)(y:Value):foldedSetIterable e env y=pure y:=by have hs:=h.se;cases e <;> first |rfl |exact Bool.noConfusion (show false=true from hs)
theorem mY.folded(h:Vc P c e x)(y:Value):foldedSetIterable e env y=pure y:=by
 cases h with
 |seq h=>exact h.folded y
 |dP _ _ _=>rfl
 |fy _ _ _ _=>rfl
 |zip _ _ _ _=>rfl
theorem Cm.Ia(h:Cm P c e x):oZ e:=by have hs:=h.se;cases e <;> first |exact λ_ _=>rfl |exact Bool.noConfusion (show false=true from hs)
end
structure kr(P:Pg)(rn:Rn):Prop where
 e:∀{X:Cx}{c:Ct}{z:Z}{k:Nat}{x:Ex}{e:Expr}{g g':G}{r:R},aX P k X c->z.K=X.K->Cm P c e x->rn.e z.bor k x g=some (r,g')->aq X z e g r g'
 t:∀{X:Cx}{c:Ct}{z:Z}{k:Nat}{x:Ex}{e:Expr}{g g':G}{b:Bool},aX P k X c->z.K=X.K->Cm P c e x->rn.t z.bor k x g=some (b,g')->bV X z e g b g'
 b:∀{X:Cx}{c:Ct}{z:Z}{k:Nat}{xs:List Sm}{qC:List Stmt}{g g':G}{f:Fl},aX P k X c->c.df=true->z.K=X.K->CP P c qC xs->rn.b z.bor k xs g=some (f,g')->cS X z qC g f g'
theorem jA(h:lP N N' scope k=true):Names N N' scope k:=by
 unfold lP at h;simp only[eJ,i5,AO,pV]at h;obtain⟨⟨h1,h2⟩,h3⟩:=h;refine⟨h1,λx e=>?_,λi x e hi=>?_⟩
 . rw[e]at h2;exact nS h2
 . have h4:=h3 i hi;rw[e]at h4;simp only[x5,eJ,i5]at h4;exact h4
theorem qi(ct:aX P k X c)(h:Cq c.sc scope=true):cz X.env.scope scope:=by
 unfold Cq at h;simp only[eJ,i5,AO,x5]at h;obtain⟨h1,h2⟩:=h;refine⟨h1,λy hy=>(h2 y hy).1.1,λy hy e=>?_,λy hy e=>?_,λy hy e=>?_⟩
 . exact ((h2 y hy).1.2).elim (λq=>absurd e q) id
 . exact ((h2 y hy).2).elim (λq=>absurd e q) λq=>q.1
 . exact ((h2 y hy).2).elim (λq=>absurd e q) λq=>ct.W2 _ q.2
theorem ig{X:Cx}{N':List Str}{scope:Scope}{b:Bk}{x:Str}:(X.blk N' scope b).env.scope.names.lookup x=(scope.names.lookup x).map λk=>if (k==NameKind.free&&X.env.scope.kind==.function&&X.env.kindOf x==some .cell)then NameKind.cell else k:=cH
theorem aX.blk{P:Pg}{k:Nat}{X:Cx}{c:Ct}{scope:Scope}{N':List Str}(ct:aX P k X c)(hnd:N'.Nodup)(b:Bk):aX P k (X.blk N' scope b) ⟨N',scope,false,Str.empty⟩:=by
 refine⟨rfl,hnd,λx e=>?_,λx e=>?_,λx e=>?_,λe=>absurd e ⋯,λx e=>?_,λe=>absurd e ⋯,ct.calm,rfl,ct.md,ct.room,λe=>absurd (show Str.empty=("law":Str)from e) ⋯⟩
 . have e':scope.names.lookup x=some .local:=e;rw[ig,e'];rfl
 . have e':scope.names.lookup x=some .globalImplicit:=e;show (X.blk N' scope b).env.scope.names.lookup x=_;rw[ig,e'];rfl
 .
  rw[ig];rcases e with e |e
  . have e':scope.names.lookup x=some .cell:=e;rw[e'];exact .inl rfl
  .
   have e':scope.names.lookup x=some .free:=e;rw[e',AY];by_cases hq:(NameKind.free==NameKind.free&&X.env.scope.kind==.function&&X.env.kindOf x==some .cell)=true
   . rw[fN hq];exact .inl rfl
   . rw[fI hq];exact .inr rfl
 .
  rcases e with e |e
  . cases e
  . have e':scope.names.lookup x=some .local:=e;show (scope.names.lookup x==some .local)=true;rw[e'];rfl
section
theorem bu(h:aq X z e g r g'):aq X z e g (norm r) g':=by
 cases r with
 |dat d=>exact h
 |new l=>exact kO h
 |var i=>exact h
theorem CQ(h:aq X z e g r g1)(hd:toD z.bor r g1=some (d,g')):aq X z e g (.dat d) g':=by
 cases r with
 |dat d'=>cases hd;exact h
 |new l=>cases hd;exact kO h
 |var i=>
  have hd:(if i∈z.bor then none else match g1[i]? with |some (.own l)=>some (D.lst l,g1.set i (.dat (.lst l))) |_=>none)=some (d,g'):=hd
  split at hd
  . cases hd
  .
   rename_i hb;split at hd
   . rename_i l hg;cases hd;exact xx h hg hb
   . cases hd
theorem aW(hS:kr P rn)(ct:aX P k X c)(hK:z.K=X.K)(hc:Cm P c e x)(h:fz rn z.bor k x g=some (d,g')):aq X z e g (.dat d) g':=by
 unfold fz at h;split at h
 . rename_i r g1 e1;exact CQ (hS.e ct hK hc e1) h
 . cases h
theorem iW:∀(ds:List D),pF (ds.map R.dat)=some ds
 | []=>rfl
 |d::ds=>by
  show (match pF (ds.map R.dat)with |some ds=>some (d::ds) |none=>none)=_
  rw[iW ds]
theorem d9(hS:kr P rn)(ct:aX P k X c)(hK:z.K=X.K):∀{es:List Expr}{xs:List Ex}{g g':G}{ds:List D},yE P c es xs->iV rn z.bor k xs g=some (ds,g')->bW X z es g (ds.map .dat) g'
 |_,_,_,_,_,.nil,h=>by cases h;exact dO
 |_,_,_,_,_,.cons h1 h2,h=>by
  unfold iV at h;split at h
  .
   rename_i d g1 e1;split at h
   . rename_i ds g2 e2;cases h;exact cQ (aW hS ct hK h1 e1) (d9 hS ct hK h2 e2) (h1.star _)
   . cases h
  . cases h
theorem lT(hS:kr P rn)(ct:aX P k X c)(hK:z.K=X.K):∀{es:List Expr}{xs:List Ex}{g g':G}{rs:List R},yE P c es xs->argsR rn z.bor k xs g=some (rs,g')->bW X z es g rs g'
 |_,_,_,_,_,.nil,h=>by cases h;exact dO
 |_,_,_,_,_,.cons h1 h2,h=>by
  unfold argsR at h;split at h
  .
   rename_i r g1 e1;split at h
   .
    rename_i rs g2 e2;cases h;have q:=bu (hS.e ct hK h1 e1);have q2:=lT hS ct hK h2 e2;cases r with
    |dat d=>exact cQ q q2 (h1.star _)
    |new l=>exact cQ q q2 (h1.star _)
    |var i=>exact zR q q2 (h1.star _)
   . cases h
  . cases h
theorem fZ(h:argsR rn bor k [a,b] g=some (rs,g2)):∃r1 r2 g1,rn.e bor k a g=some (r1,g1)/\rn.e bor k b g1=some (r2,g2)/\rs=[norm r1,norm r2]:=by
 unfold argsR at h;split at h
 .
  rename_i r1 g1 e1;unfold argsR at h;split at h
  .
   rename_i rs' g3 e3;split at e3
   . rename_i r2 g4 e2;unfold argsR at e3;cases e3;cases h;exact⟨r1,r2,g1,e1,e2,rfl⟩
   . cases e3
  . cases h
 . cases h
theorem uZ(hS:kr P rn)(ct:aX P k X c)(hK:z.K=X.K):∀{bs:List Expr}{xs:List Ex}{ops:List CmpOp}{g g':G}{d1:D}{b:Bool},yE P c bs xs->yV rn z.bor k d1 ops xs g=some (b,g')->pL X z d1 ops bs g b g'
 |_,_,[],_,_,_,_,.nil,h=>by cases h
 |_,_,[_],_,_,_,_,.nil,h=>by unfold yV at h;cases h
 |_,_,_::_::_,_,_,_,_,.nil,h=>by unfold yV at h;cases h
 |_,_,[],_,_,_,_,.cons _ _,h=>by unfold yV at h;cases h
 |_,_,[op],_,_,d1,_,.cons h1 .nil,h=>by
  unfold yV at h;split at h
  .
   rename_i d2 g1 e1;split at h
   . rename_i b e2;cases h;exact .last (aW hS ct hK h1 e1) (lO hK ct.room e2)
   . cases h
  . cases h
 |_,_,op::op'::ops,_,_,d1,_,.cons h1 .nil,h=>by unfold yV at h;cases h
 |_,_,[op],_,_,d1,_,.cons h1 (.cons h2 h3),h=>by unfold yV at h;cases h
 |_,_,op::op'::ops,_,_,d1,_,.cons h1 (.cons h2 h3),h=>by
  unfold yV at h;split at h
  .
   rename_i d2 g1 e1;split at h
   . rename_i e2;exact .link (aW hS ct hK h1 e1) (lO hK ct.room e2) (uZ hS ct hK (.cons h2 h3) h)
   . rename_i e2;cases h;exact .stop (aW hS ct hK h1 e1) (lO hK ct.room e2)
   . cases h
  . cases h
theorem wk(hS:kr P rn)(ct:aX P k X c)(hK:z.K=X.K):∀{es:List Expr}{xs:List Ex}{g g':G}{r:R},yE P c es xs->Ci rn z.bor k xs g=some (r,g')->aq X z (.BoolOp .And es pos) g r g'
 |_,_,_,_,_,.nil,h=>by cases h
 |_,_,_,_,_,.cons h1 .nil,h=>zQ (hS.e ct hK h1 h)
 |_,_,_,_,_,.cons h1 (.cons h2 h3),h=>by
  unfold Ci at h;split at h
  . rename_i g1 e1;exact Ga (hS.e ct hK h1 e1) (wk hS ct hK (.cons h2 h3) h)
  . rename_i g1 e1;cases h;exact FZ (hS.e ct hK h1 e1)
  . cases h
theorem CT(hS:kr P rn)(ct:aX P k X c)(hK:z.K=X.K):∀{es:List Expr}{xs:List Ex}{g g':G}{r:R},yE P c es xs->Sw rn z.bor k xs g=some (r,g')->aq X z (.BoolOp .Or es pos) g r g'
 |_,_,_,_,_,.nil,h=>by cases h
 |_,_,_,_,_,.cons h1 .nil,h=>zQ (hS.e ct hK h1 h)
 |_,_,_,_,_,.cons h1 (.cons h2 h3),h=>by
  unfold Sw at h;split at h
  . rename_i g1 e1;exact Lq (hS.e ct hK h1 e1) (CT hS ct hK (.cons h2 h3) h)
  . rename_i g1 e1;cases h;exact Lp (hS.e ct hK h1 e1)
  . cases h
theorem sH(hS:kr P rn)(ct:aX P k X c)(hK:z.K=X.K):∀{es:List Expr}{xs:List Ex}{g g':G}{b:Bool},yE P c es xs->sy rn z.bor k xs g=some (b,g')->jR X z (.BoolOp .And es pos) g b g'
 |_,_,_,_,_,.nil,h=>by cases h
 |_,_,_,_,_,.cons h1 .nil,h=>FQ (hS.t ct hK h1 h)
 |_,_,_,_,_,.cons h1 (.cons h2 h3),h=>by
  unfold sy at h;split at h
  . rename_i g1 e1;exact FW (hS.t ct hK h1 e1) (sH hS ct hK (.cons h2 h3) h)
  . rename_i g1 e1;cases h;exact FT (hS.t ct hK h1 e1)
  . cases h
theorem wu(hS:kr P rn)(ct:aX P k X c)(hK:z.K=X.K):∀{es:List Expr}{xs:List Ex}{g g':G}{b:Bool},yE P c es xs->Cj rn z.bor k xs g=some (b,g')->jR X z (.BoolOp .Or es pos) g b g'
 |_,_,_,_,_,.nil,h=>by cases h
 |_,_,_,_,_,.cons h1 .nil,h=>Lj (hS.t ct hK h1 h)
 |_,_,_,_,_,.cons h1 (.cons h2 h3),h=>by
  unfold Cj at h;split at h
  . rename_i g1 e1;exact Ln (hS.t ct hK h1 e1) (wu hS ct hK (.cons h2 h3) h)
  . rename_i g1 e1;cases h;exact Lk (hS.t ct hK h1 e1)
  . cases h
theorem sI(hS:kr P rn)(ct:aX P k X c)(hK:z.K=X.K)(hc:CmO P c e x)(h:sA rn z.bor k x g=some (o,g')):pM X z e g o g':=by
 cases hc with
 |none=>cases h;exact xH
 |@some e' x' hc=>
  have h:(match fz rn z.bor k x' g with |some (.int i,g1)=>some (some i,g1) |_=>none)=some (o,g'):=h
  split at h
  . rename_i e1;cases h;exact xJ (aW hS ct hK hc e1)
  . cases h
theorem CV(ct:aX P k X c)(h:c.sc.names.lookup x=some .globalImplicit):Gl X x:=ct.mW x h
theorem u5(hS:kr P rn)(ct:aX P k X c)(hK:z.K=X.K)(htp:tp=true->∃es k pos,tg=.Tuple es k pos)(hc:Vc P c iter it)(h:eY rn z.bor k tp it g=some (items,g')):fc X z tg iter g items g':=by
 cases hc with
 |zip ha ha2 hb hg=>
  unfold eY at h;dsimp only at h;split at h
  .
   rename_i ht;obtain⟨es,k0,pos,rfl⟩:=htp ht;split at h
   .
    rename_i d1 d2 g1 e1;split at h
    .
     rename_i l m e2 e3;split at h
     . rename_i e4;cases h;exact M8 hK (d9 hS ct hK (.cons ha (.cons ha2 .nil)) e1) e2 e3 e4 (CV ct hg) (ct.md.bn _ hb) (ha.star _) (by rw[ha2.star];rfl)
     . cases h
    . cases h
   . cases h
  . cases h
 |dP ha hb hg=>
  unfold eY at h;dsimp only at h;split at h
  .
   rename_i j g1 e1;split at h
   . rename_i hj;cases h;simp only[Hu,eJ,i5]at hj;exact Gr (cQ (aW hS ct hK ha e1) dO (ha.star _)) (CV ct hg) (ct.md.bn _ hb) (by rw[ha.star];rfl) hj.1 hj.2
   . cases h
  . cases h
 |fy ha hb' hb hg=>
  unfold eY at h;dsimp only at h;split at h
  .
   rename_i c0 g1 e1;split at h
   .
    rename_i j g2 e2;split at h
    . rename_i hj;cases h;simp only[Hu,eJ,i5]at hj;exact Gs (cQ (aW hS ct hK ha e1) (cQ (aW hS ct hK hb' e2) dO (hb'.star _)) (ha.star _)) (CV ct hg) (ct.md.bn _ hb) (by rw[ha.star,hb'.star];rfl) (by rw[hb'.star];rfl) ⟨hj.1.1,hj.1.2,hj.2.1,hj.2.2⟩
    . cases h
   . cases h
  . cases h
 |seq hc=>
  have h':(match fz rn z.bor k it g with |some (.tup l,g1)=>some (l,g1) |some (.lst l,g1)=>some (l,g1) |some (.fix l,g1)=>some (l,g1) |_=>none)=some (items,g'):=by cases hc.out <;> exact h
  split at h'
  . rename_i e1;cases h';exact Ms hK (aW hS ct hK hc e1)
  . rename_i e1;cases h';exact Mt (aW hS ct hK hc e1)
  . rename_i e1;cases h';exact Mu hK (aW hS ct hK hc e1)
  . cases h'
theorem CW(hS:kr P rn)(ct:aX P k X c)(hK:z.K=X.K)(hc:N5 P c ifs co)(h:yW rn z.bor k co g=some (b,g')):gI X z ifs g b g':=by
 cases hc with
 |none=>cases h;exact Gu
 |some hc=>exact Gv (hS.t ct hK hc h)
theorem CZ(h:Cr c tg T):T.jx=true->∃es k pos,tg=.Tuple es k pos:=by
 cases h with
 |nm _ _=>intro e;cases e
 |tp _=>intro _;exact⟨_,_,_,rfl⟩
theorem Ob(ct:aX P k X c)(h:yy c es is):iL X es is:=by
 induction h with
 |nil=>exact .nil
 |cons h1 h2 _ ih=>exact .cons (ct.nm h1 h2) ih
theorem wz(ct:aX P k X c)(hK:z.K=X.K)(h:Cr c tg T)(hb:∀i∈T.ix,i∉z.bor):kY X z tg T:=by
 cases h with
 |nm h1 h2=>exact RJ (ct.nm h1 h2) (hb _ (gN.mpr rfl))
 |tp h1=>exact RK ct.calm hK (Ob ct h1) hb
theorem u6(hS:kr P rn){Xb:Bk->Cx}{cb:Ct}(S9:∀b,aX P k (Xb b) cb)(JB:∀b,z.K=(Xb b).K){T:Tg}{last:Nat}{ifs:List Expr}{co:Option Ex}{iC:Expr}{xe:Ex}(hi:N5 P cb ifs co)(he:Cm P cb iC xe) :
  ∀{items:List D}{g gE:G},yw rn z.bor k T last co xe items g=some gE->jS T last (λg b g'=>∀bk:Bk,gI (Xb bk) z ifs g b g') (λg d g'=>∀bk:Bk,aq (Xb bk) z iC g (.dat d) g') items g gE
 | [],_,_,h=>by cases h;exact .nil
 |d::l,_,_,h=>by
  unfold yw at h;split at h
  . cases h
  .
   rename_i g1 e1;split at h
   . cases h
   . rename_i g2 e2;exact .skip e1 (λbk=>CW hS (S9 bk) (JB bk) hi e2) (u6 hS S9 JB hi he h)
   .
    rename_i g2 e2;split at h
    . cases h
    .
     rename_i x g3 e3;split at h
     .
      rename_i acc e4;split at h
      . rename_i hl;exact .take e1 (λbk=>CW hS (S9 bk) (JB bk) hi e2) (λbk=>aW hS (S9 bk) (JB bk) he e3) e4 hl (u6 hS S9 JB hi he h)
      . cases h
     . cases h
end
structure Tc(P:Pg)(rn:Rn):Prop where
structure Ib(P:Pg)(fi:Fi)(fx:Fx):Prop where
 np:fx.np=fi.ps.length
 n:fx.n=fi.N.length
 body:CP P ⟨fi.N,aJ fi.st,true,fi.qual⟩ (bx fi.st) fx.body
def lU(P:Pg)(fns:List Fx):Prop:=∀(f:Nat) (fi:Fi) (fx:Fx),P.fn[f]?=some fi->fns[f]?=some fx->Ib P fi fx
theorem sJ{P:Pg}{k:Nat}{prog:Program}{w:World}{K:Frag}{mg:Str->Option Value}{base:Heap}{N ps:List Str}{qual:Str}{scope:Scope}{f:Addr}{dG:Value}{A:Around}{outer:List Env}{s:Shared}{H:Hp}{E:XK}
  (S:dB N ps scope) (md:yx P K mg) (cM:PySem.W.codeIn K dG qual=true) (hr:dR k (A.deeper (envOfC qual scope s⁻¹ f dG))):aX P k (qN Ec prog w K mg base N qual scope f dG A outer s H E).P1 ⟨N,scope,true,qual⟩:=by
 refine⟨rfl,S.nd,λx e=>e,λx e=>e,λx e=>e,λ_ x e=>e,λx _=>rfl,λ_=>?_,rfl,rfl,md,hr,λe h=>⟨by have e:qual = "law" :=e;subst e;rfl,md.lam h _ (by have e:qual = "law" :=e;exact e▸cM)⟩⟩
 show (if scope.kind.isAnnotationScope then ScopeKind.function else scope.kind)=.function
 rw[S.kind];rfl
section
theorem Dc(hS:kr P rn){k':Nat}(ct:aX P (k'+1) X c)(hK:z.K=X.K){f:Nat}{fi:Fi}{fx:Fx}(Td:P.fn[f]?=some fi)(yX:Ib P fi fx)(YB:c.sc.names.lookup fi.name=some .globalImplicit){e:Expr}{es:List Expr}{xs:List Ex}{rs:List R}{g g1 gO:G}{r:R}
  (hc:yE P c (e::es) xs) (ha:bW X z (e::es) g rs g1) (h:aO rn fx k' rs g1=some (r,gO)):aq X z (.Call (.Name fi.name p) (e::es) [] pos) g r gO:=by
 obtain⟨f,fd,hm,hF,YC,hB,wK⟩:=ct.md.fn _ fi Td;have F:mH X.prog X.w X.K X.mg X.base Ec (k'+1) f fd fi.ps (Mp X.K fi.N fi.ps.length λbor g r g'=>rn.b bor k' fx.body g=some (.rt r,g')\/(rn.b bor k' fx.body g=some (.nx,g')/\r=.dat .non)):=by
  refine Jx hF YC λdG A outer s H E cM hr z' g r g' YD hrun=>?_
  have Xg:aX P k' (qN Ec X.prog X.w X.K X.mg X.base fi.N fi.qual (aJ fi.st) f dG A outer s H E).P1 ⟨fi.N,aJ fi.st,true,fi.qual⟩:=sJ YC ct.md cM hr;rcases hrun with h |⟨h,rfl⟩
  . exact⟨_,hS.b Xg rfl YD yX.body h,.inl rfl⟩
  . exact⟨_,hS.b Xg rfl YD yX.body h,.inr ⟨rfl,rfl⟩⟩
 have h1:∃h2:yE P c es xs.tail,starEach (e::es) X.env=(false,eval e X.env)::starEach es X.env:=by
  cases hc with
  |cons h1 h2=>exact⟨h2,h1.star _⟩
 obtain⟨h2,dH⟩:=h1;unfold aO at h;split at h
 .
  rename_i hl;split at h
  . cases h
  .
   rename_i gs e1;split at h
   .
    rename_i r0 gc e2;split at h
    .
     rename_i gO' e3;split at h
     . rename_i r' e4;cases h;exact vL F hK ct.room (ct.mW _ YB) hm hF.kp hB ha (by rw[hl.1,yX.np]) e1 hl.2 (.inl (by rw[<- yX.n];exact e2)) e3 e4 wK dH h2.plain
     . cases h
    . cases h
   .
    rename_i gc e2;split at h
    . rename_i gO' e3;cases h;exact vL F hK ct.room (ct.mW _ YB) hm hF.kp hB ha (by rw[hl.1,yX.np]) e1 hl.2 (.inr ⟨by rw[<- yX.n];exact e2,rfl⟩) e3 rfl wK dH h2.plain
    . cases h
   . cases h
 . cases h
theorem sL(hS:kr P rn)(ct:aX P k X c)(hK:z.K=X.K)
  (hnd:N'.Nodup) (hT:Cr ⟨N',scope,false,Str.empty⟩ tg T) (JQ:∀i∈T.ix,c.N.length<=i/\i<c.N.length+kk) (hi:Vc P c iter it) (hf:N5 P ⟨N',scope,false,Str.empty⟩ ifs co) (he:Cm P ⟨N',scope,false,Str.empty⟩ iC xe)
  (h:cJ rn z.bor k c.N.length kk T it co xe g=some (acc,g')) :
  ∃items g1 gE,fc X z tg iter g items g1/\(∀b:Bk,kY (X.blk N' scope b) z tg T)/\(∀i∈T.ix,g1.length<=i/\i<g1.length+kk)/\
   jS T (g1.length+kk) (λg b g'=>∀bk:Bk,gI (X.blk N' scope bk) z ifs g b g') (λg d g'=>∀bk:Bk,aq (X.blk N' scope bk) z iC g (.dat d) g') items (gC kk g1) gE/\gE[g1.length+kk]?=some (.own acc)/\g'=gE.take g1.length:=by
 unfold cJ at h;split at h
 . cases h
 .
  rename_i items g1 e1;split at h
  .
   rename_i hl;split at h
   . cases h
   .
    rename_i gE e2;split at h
    .
     rename_i acc' e3;cases h;obtain⟨hl,hb⟩:=hl;rw[<- hl]at e2 e3 JQ ⊢
     refine⟨items,g1,gE,u5 hS ct hK (CZ hT) hi e1,λb=>wz (ct.blk hnd b) hK hT λi hi hm=>?_,JQ,u6 hS (λb=>ct.blk hnd b) (λb=>hK) hf he e2,e3,rfl⟩
     rw[List.any_eq_false]at hb;exact hb i hi (sT hm)
    . cases h
  . cases h
theorem Dd(hS:kr P rn)(ct:aX P k X c)(hK:z.K=X.K){vx:Expr}{JL:List Expr}{scope:Scope}{N':List Str}{T:Tg}{xv:Ex}{ks:List Ex}{kk:Nat}{kp:Pos}(hnd:N'.Nodup)
  (hk:yE P ⟨N',scope,false,Str.empty⟩ JL ks) (hv:Cm P ⟨N',scope,false,Str.empty⟩ vx xv):∀{items:List D}{ka:List (List Int)}{da:List D}{g gE:G}{p:List (List Int)×List D},U5 rn z.bor k T ks xv items ka da g=some (p,gE)->
  pU T (λg ns g'=>∀bk:Bk,uE (X.blk N' scope bk) z (.Tuple JL kk kp) g ns g') (λg d g'=>∀bk:Bk,aq (X.blk N' scope bk) z vx g (.dat d) g') items ka da g p.1 p.2 gE
 | [],_,_,_,_,_,h=>by cases h;exact .nil
 |d::l,ka,_,_,_,_,h=>by
  unfold U5 at h;split at h
  . cases h
  .
   rename_i g1 e0;split at h
   . cases h
   .
    rename_i m g2 e1;split at h
    . cases h
    .
     rename_i ns e2;split at h
     . cases h
     .
      rename_i x g3 e3;split at h
      .
       rename_i hc;obtain⟨h1,h2,h3⟩:=hc;have h1:=aj h1;refine .cons e0 (λbk=>Nb (d9 hS (ct.blk hnd bk) hK hk e1) (iW _) e2 h3) (λbk=>aW hS (ct.blk hnd bk) hK hv e3) (λhm=>?_) h2 (aj h1.2).1 (aj h1.2).2 (Dd hS ct hK hnd hk hv h)
       have:=AO.mp h1.1 ns hm;simp at this
      . cases h
theorem yF(hS:kr P rn)(ct:aX P k X c)(hK:z.K=X.K){tg iter vx:Expr}{JL:List Expr}{scope:Scope}{N':List Str}{kk kt:Nat}{kp:Pos}{T:Tg}{it xv:Ex}{ks:List Ex}{g g':G}{p:List (List Int)×List D}
  (hnd:N'.Nodup) (hT:Cr ⟨N',scope,false,Str.empty⟩ tg T) (JQ:∀i∈T.ix,c.N.length<=i/\i<c.N.length+kk) (hi:Vc P c iter it) (hk:yE P ⟨N',scope,false,Str.empty⟩ JL ks) (hv:Cm P ⟨N',scope,false,Str.empty⟩ vx xv)
  (h:uU rn z.bor k c.N.length kk T it ks xv g=some (p,g')) :
  ∃items g1 gE,fc X z tg iter g items g1/\(∀b:Bk,kY (X.blk N' scope b) z tg T)/\(∀i∈T.ix,g1.length<=i/\i<g1.length+kk)/\
   pU T (λg ns g'=>∀bk:Bk,uE (X.blk N' scope bk) z (.Tuple JL kt kp) g ns g') (λg d g'=>∀bk:Bk,aq (X.blk N' scope bk) z vx g (.dat d) g') items [] [] (gD kk g1) p.1 p.2 gE/\g'=gE.take g1.length:=by
 unfold uU at h;split at h
 . cases h
 .
  rename_i items g1 e1;split at h
  .
   rename_i hl;split at h
   . cases h
   .
    rename_i q gE e2;cases h;obtain⟨hl,hb⟩:=hl;rw[<- hl]at JQ ⊢
    refine⟨items,g1,gE,u5 hS ct hK (CZ hT) hi e1,λb=>wz (ct.blk hnd b) hK hT λi hi hm=>?_,JQ,Dd hS ct hK hnd hk hv e2,rfl⟩
    rw[List.any_eq_false]at hb;exact hb i hi (sT hm)
  . cases h
end
section
variable{X:Cx}{c:Ct}
theorem De(ct:aX P k X c){es:List Expr}{ns:List String}(h:uX P c es ns):k9 X es ns/\∀n∈ns,n∈mX:=by
 induction h with
 |nil=>exact⟨.nil,λn hn=>nomatch hn⟩
 |@cons T n pos es ns h1 h2 h3 h4 _ ih=>
  refine⟨.cons ?_ ih.1,λm hm=>(dS.mp hm).elim (λe=>e▸h4) (ih.2 m)⟩
  subst h3;refine⟨ct.mW _ h2,ct.md.bn _ h1,?_,?_,?_⟩ <;> (unfold mX at h4;simp only[dS,i8,wS]at h4;rcases h4 with rfl |rfl |rfl |rfl |rfl |rfl <;> first |rfl |decide)
theorem Oc{e:Expr}{g g1:G}{r:R}{d:D}(h:aq X z e g r g1)(hp:pk r g1=some d)(hs:starEach [e] X.env=(false,eval e X.env)::starEach [] X.env):bW X z [e] g [r] g1:=by
 cases r with
 |dat d=>exact cQ h dO hs
 |new l=>cases hp
 |var i=>exact zR h dO hs
theorem u9{e:Expr}{x:Ex}{bM:Pos}(hc:Cm P c e x):((backTo bM (starEach [e] X.env)).all (λx=>!x.1)&&(backToKw bM (keywordEach [] X.env)).all (λx=>x.1.isSome)
   && decide ([e].length+([]:List Keyword).length+(if ([]:List Keyword).isEmpty then 0 else 1)<30))=true:=by
 rw[hc.star];rfl
def Te(X:Cx)(z:Z)(e:Expr)(g:G)(o:Option (R×G)):Prop:=∀r g',o=some (r,g')->aq X z e g r g'
theorem Te.none{e:Expr}{g:G}:Te X z e g none:=λ_ _ h=>nomatch h
theorem Te.some{e:Expr}{g g':G}{r:R}(h:aq X z e g r g'):Te X z e g (some (r,g')):=λ_ _ q=>by cases q;exact h
theorem Ic(hS:kr P rn)(hX:Tc P rn){fns:List Fx}(hF:lU P fns)(ct:aX P k X c)(hK:z.K=X.K){e:Expr}{x:Ex}{g:G}(hc:Cm P c e x):Te X z e g (aV rn z.bor k fns x g):=by
 cases hc.out with
 |int=>exact .some (Lb)
 |bool=>exact .some (Rt)
 |none=>exact .some (Lc)
 |str=>exact .some (Ld)
 |var h1 h2 h3=>
  obtain⟨hd,cM⟩:=fS h3;unfold aV;dsimp only;split
  . rename_i e1;exact .some (Le (by rw[ct.N];exact h1) (ct.vis h2) hd cM e1)
  . rename_i e1;exact .some (FN (by rw[ct.N];exact h1) (ct.vis h2) hd cM e1)
  . exact .none
 |glob h1 h2=>obtain⟨hd,v,u,q1,q2,q3⟩:=ct.md.ct _ _ h1;exact .some (FP (ct.mW _ h2) q1 q2 (hK▸q3) hd)
 |bin h1 h2=>
  unfold aV;dsimp only;split
  .
   rename_i r1 r2 g2 e1;obtain⟨s1,s2,g1,q1,q2,q3⟩:=fZ e1;cases q3;split
   .
    rename_i d1 d2 p1 p2;split
    . rename_i r0 e3;exact .some (Lf (bu (hS.e ct hK h1 q1)) (bu (hS.e ct hK h2 q2)) p1 p2 (Nv hK e3))
    . exact .none
   . exact .none
  . exact .none
 |cmp h1 h2 h3=>
  unfold aV;dsimp only;split
  .
   rename_i r1 r2 g2 e1;obtain⟨s1,s2,g1,q1,q2,q3⟩:=fZ e1;cases q3;split
   .
    rename_i d1 d2 p1 p2;split
    . rename_i r0 e3;exact .some (Lg (bu (hS.e ct hK h1 q1)) (bu (hS.e ct hK h2 q2)) p1 p2 (lO hK ct.room e3) h3)
    . exact .none
   . exact .none
  . exact .none
 |chain h1 h2 h3=>
  unfold aV;dsimp only;split
  .
   rename_i d1 g1 e1;split
   . rename_i b g2 e2;exact .some (Aj (aW hS ct hK h1 e1) (uZ hS ct hK h2 e2) h3)
   . exact .none
  . exact .none
 |neg h1=>
  unfold aV;dsimp only;split
  . rename_i i g1 e1;exact .some (Rv (aW hS ct hK h1 e1) rfl L0)
  . exact .none
 |not h1=>
  unfold aV;dsimp only;split
  . rename_i b g1 e1;exact .some (Lr (hS.e ct hK h1 e1))
  . exact .none
 |and h1=>exact λ_ _ h=>wk hS ct hK h1 h
 |or h1=>exact λ_ _ h=>CT hS ct hK h1 h
 |ite h1 h2 h3=>
  unfold aV;dsimp only;split
  . rename_i g1 e1;exact λ_ _ h=>Ls (hS.t ct hK h1 e1) (hS.e ct hK h2 h)
  . rename_i g1 e1;exact λ_ _ h=>Lv (hS.t ct hK h1 e1) (hS.e ct hK h3 h)
  . exact .none
 |tup h1=>
  unfold aV;dsimp only;split
  .
   rename_i ds g1 e1;split
   . rename_i hl;exact .some (Lw (d9 hS ct hK h1 e1) (iW _) hl)
   . exact .none
  . exact .none
 |lst h1=>
  unfold aV;dsimp only;split
  .
   rename_i ds g1 e1;split
   . rename_i hl;exact .some (Lx (d9 hS ct hK h1 e1) (iW _) hl)
   . exact .none
  . exact .none
 |ix h1 h2=>
  unfold aV;dsimp only;split
  .
   rename_i r1 r2 g2 e1;obtain⟨s1,s2,g1,q1,q2,q3⟩:=fZ e1;cases q3;split
   .
    rename_i d1 d2 p1 p2;split
    . rename_i r0 e3;exact .some (Ru (bu (hS.e ct hK h1 q1)) (bu (hS.e ct hK h2 q2)) p1 p2 (Nx hK (by have:=ct.room.units;lia) e3) h2.Ia)
    . exact .none
   . exact .none
  . exact .none
 |slice h1 h2 h3=>
  unfold aV;dsimp only;split
  .
   rename_i r0 g1 e1;have q:=bu (hS.e ct hK h1 e1);split
   .
    rename_i i g2 e2;have q2:=sI hS ct hK h2 e2;split
    .
     rename_i j g3 e3;have q3:=sI hS ct hK h3 e3;split
     . rename_i l e4;rw[e4]at q;exact .some (xN hK q q2 q3)
     . rename_i l e4;rw[e4]at q;exact .some (xM hK q q2 q3)
     .
      split
      . rename_i e5;exact .some (xK (d:=.non) hK q q2 q3 e5)
      . exact .none
    . exact .none
   . exact .none
  . exact .none
 |call h1 h2 h3 h4=>
  subst h2;unfold aV;dsimp only;split
  .
   rename_i fx k' Xg yX;split
   . rename_i rs g1 e1;exact λ_ _ h=>Dc hS ct hK h1 (hF _ _ _ h1 yX) h3 h4 (lT hS ct hK h4 e1) h
   . exact .none
  . exact .none
 |@blt x b e es xs p pos h1 h2 h3 h4=>
  unfold aV;dsimp only;split
  .
   rename_i rs g1 e1;split
   .
    rename_i ds e2;split
    .
     rename_i r0 e3;have ha:=lT hS ct hK h4 e1;have cM:=Nz hK ct.calm (by have:=ct.room.units;lia) e3
     have dH:starEach (e::es) X.env=(false,eval e X.env)::starEach es X.env:=by cases h4 with |cons h _=>exact h.star _
     have iA:(backTo pos (starEach es X.env)).any (·.1)=false:=by cases h4 with |cons _ h=>exact h.plain
     subst h1;cases b with
     |len=>exact .some (cR ha e2 cM (ct.mW _ h3) (ct.md.bn _ h2) rfl ⋯ ⋯ dH iA)
     |list=>exact .some (jk ha e2 cM (ct.mW _ h3) (ct.md.bn _ h2) rfl ⋯ ⋯ dH iA)
     |tuple=>exact .some (jk ha e2 cM (ct.mW _ h3) (ct.md.bn _ h2) rfl ⋯ ⋯ dH iA)
     |max=>exact .some (cR ha e2 cM (ct.mW _ h3) (ct.md.bn _ h2) rfl ⋯ ⋯ dH iA)
     |min=>exact .some (cR ha e2 cM (ct.mW _ h3) (ct.md.bn _ h2) rfl ⋯ ⋯ dH iA)
     |str=>exact .some (jk ha e2 cM (ct.mW _ h3) (ct.md.bn _ h2) rfl ⋯ ⋯ dH iA)
     |all=>exact .some (cR ha e2 cM (ct.mW _ h3) (ct.md.bn _ h2) rfl ⋯ ⋯ dH iA)
     |any=>exact .some (cR ha e2 cM (ct.mW _ h3) (ct.md.bn _ h2) rfl ⋯ ⋯ dH iA)
     |sorted=>exact .some (cR ha e2 cM (ct.mW _ h3) (ct.md.bn _ h2) rfl ⋯ ⋯ dH iA)
     |sum=>exact .some (cR ha e2 cM (ct.mW _ h3) (ct.md.bn _ h2) rfl ⋯ ⋯ dH iA)
    . exact .none
   . exact .none
  . exact .none
 |@jV a xa T n p pT pos h1 h2 h3 h4 h5 h6 h7=>
  unfold aV;dsimp only;split
  .
   rename_i r0 g1 e1;split
   .
    rename_i d e2;obtain⟨t1,_⟩:=De ct (uX.cons (pos:=pT) h4 h5 h6 h7 .nil);cases t1 with
    |cons t1 _=>exact .some (Mh hK (bu (hS.e ct hK h1 e1)) e2 (λ_ _ _ p=>sC p h7) (ct.mW _ h3) (ct.md.bn _ h2) rfl t1.gl t1.mg t1.bt t1.nn t1.db (h1.star _))
   . exact .none
  . exact .none
 |mV h1 h2 h3 h4 h5=>
  unfold aV;dsimp only;split
  .
   rename_i r0 g1 e1;split
   . rename_i d e2;obtain⟨t1,t2⟩:=De ct h5;exact .some (GK hK (bu (hS.e ct hK h1 e1)) e2 t1 ⋯ (λ_ _ _ p=>ow p t2) (ct.mW _ h3) (ct.md.bn _ h2) rfl (h1.star _))
   . exact .none
  . exact .none
 |rev h1=>
  unfold aV;dsimp only;split
  .
   rename_i r0 g1 e1;have q:=bu (hS.e ct hK h1 e1);split
   . rename_i l e4;rw[e4]at q;exact .some (GX hK q)
   .
    split
    . rename_i e5;exact .some (GR hK q e5)
    . exact .none
  . exact .none
 |emp=>exact .some (MP)
 |comp h1 h2 h3 h4 h5 h6 h7 h8=>
  unfold aV;dsimp only;split
  . rename_i acc g1 e1;obtain⟨items,g1,gE,w1,w2,w3,w4,w5,rfl⟩:=sL hS ct hK h3 h4 h5 h6 h7 h8 e1;exact .some (Gx (qi ct h1) ct.calm (by rw[ct.N];exact jA h2) w1 w2 w3 w4 w5 λy=>h6.folded y)
  . exact .none
 |iT h1 h2 h3 h4 h5 h6 h7 h8=>
  unfold aV;dsimp only;split
  . rename_i p g1 e1;obtain⟨items,g1,gE,w1,w2,w3,w4,rfl⟩:=yF hS ct hK h3 h4 h5 h6 h7 h8 e1;exact .some (Bo (qi ct h1) ct.calm ct.room.Kz (by rw[ct.N];exact jA h2) w1 w2 w3 w4 λy=>h6.folded y)
  . exact .none
 |@fM a xa lp p rp pos h1 h2 h3 h4 h5=>
  unfold aV;dsimp only;split
  .
   rename_i j g1 e1;split
   .
    rename_i hj;obtain⟨hj,hl⟩:=hj;simp only[Hu,eJ,i5]at hj;have q:=Aq (z:=z) (lp:=lp) (pos:=pos) (Wv (p:=p) (rp:=rp) (cQ (aW hS ct hK h1 e1) dO (h1.star _)) (ct.mW _ h3) (ct.md.bn _ h2) (h1.star _)) ct.calm (ct.mW _ h5) (ct.md.bn _ h4) rfl ⟨by lia,by lia,hj.1,hj.2⟩ (by rw[Int.sub_zero];exact hl)
    rw[Int.sub_zero]at q;exact .some (q)
   . exact .none
  . exact .none
 |sset h1 h2 h3 h4 h5=>
  unfold aV;dsimp only;split
  .
   rename_i r0 g1 e1;split
   .
    rename_i l e2;split
    .
     rename_i aZ e3;split
     . rename_i hl;exact .some (Hq ct.calm (by have:=ct.room.units;lia) hK (Oc (bu (hS.e ct hK h1 e1)) e2 (h1.star _)) e2 e3 hl (ct.mW _ h3) (ct.md.bn _ h2) (ct.mW _ h5) (ct.md.bn _ h4) (h1.star _))
     . exact .none
    . exact .none
   . exact .none
  . exact .none
 |append h1 h2 h3 h4 h5=>
  obtain⟨hd,cM⟩:=fS h3;unfold aV;dsimp only;split
  .
   rename_i l0 e0;split
   .
    rename_i d g1 e1;split
    .
     rename_i l e2;split
     . rename_i hl;exact .some (xG (by rw[ct.N];exact h1) (ct.vis h2) hd cM e0 (cQ (aW hS ct hK h4 e1) dO (h4.star _)) e2 hl rfl (u9 h4) h5 (h4.star _))
     . exact .none
    . exact .none
   . exact .none
  . exact .none
 |extend h1 h2 h3 h4 h5=>
  obtain⟨hd,cM⟩:=fS h3;unfold aV;dsimp only;split
  .
   rename_i l0 e0;split
   .
    rename_i d g1 e1;split
    .
     rename_i l e2;split
     . rename_i hl;exact .some (xP (by rw[ct.N];exact h1) (ct.vis h2) hd cM e0 (cQ (aW hS ct hK h4 e1) dO (h4.star _)) e2 hl rfl (u9 h4) h5 (h4.star _))
     . exact .none
    . exact .none
   . exact .none
  . exact .none
 |fO h1 h2 h3 h4 h5=>
  obtain⟨hd,cM⟩:=fS h3;unfold aV;dsimp only;split
  .
   rename_i l0 e0;split
   .
    rename_i j g1 e1;split
    .
     rename_i l e2;split
     .
      rename_i n e3;split
      .
       rename_i d e4;split
       . rename_i hl;exact .some (Ag (by rw[ct.N];exact h1) (ct.vis h2) hd cM e0 (cQ (aW hS ct hK h4 e1) dO (h4.star _)) e2 e3 e4 hl rfl (u9 h4) h5 (h4.star _))
       . exact .none
      . exact .none
     . exact .none
    . exact .none
   . exact .none
  . exact .none
theorem Df(hS:kr P rn)(hX:Tc P rn){fns:List Fx}(hF:lU P fns)(ct:aX P k X c)(hK:z.K=X.K){e:Expr}{x:Ex}{g g':G}{r:R}(hc:Cm P c e x)(h:aV rn z.bor k fns x g=some (r,g')):aq X z e g r g':=Ic hS hX hF ct hK hc r g' h
end
section
theorem Dg(hS:kr P rn)(ct:aX P k X c)(hK:z.K=X.K){e:Expr}{x:Ex}{g g':G}{b:Bool}(hc:Cm P c e x)(h:stepT rn z.bor k x g=some (b,g')):bV X z e g b g':=by
 have plain:(match rn.e z.bor k x g with |some (r,g1)=>(match pk (norm r) g1 with |some d=>(match GF d with |some c=>some (c,g1) |none=>none) |none=>none) |none=>none)=some (b,g')->
   (∀whole,isTrue e X.env whole=(do let v <- whole;standAt e.pos;holding [v] (truthy v)))->bV X z e g b g':=by
  intro h he;split at h
  .
   rename_i r g1 e1;split at h
   .
    rename_i d e2;split at h
    . rename_i b' e3;cases h;exact Am hK (bu (hS.e ct hK hc e1)) e2 e3 he
    . cases h
   . cases h
  . cases h
 cases hc.out with
 |int=>exact plain h λ_=>rfl
 |bool=>exact plain h λ_=>rfl
 |none=>exact plain h λ_=>rfl
 |str=>exact plain h λ_=>rfl
 |var h1 h2 h3=>exact plain h λ_=>rfl
 |glob h1 h2=>exact plain h λ_=>rfl
 |bin h1 h2=>exact plain h λ_=>rfl
 |cmp h1 h2 h3=>
  unfold stepT at h;dsimp only at h;split at h
  .
   rename_i r1 r2 g2 e1;obtain⟨s1,s2,g1,q1,q2,q3⟩:=fZ e1;cases q3;split at h
   .
    rename_i d1 d2 p1 p2;split at h
    . rename_i r0 e3;cases h;exact Lh (bu (hS.e ct hK h1 q1)) (bu (hS.e ct hK h2 q2)) p1 p2 (lO hK ct.room e3) h3
    . cases h
   . cases h
  . cases h
 |chain h1 h2 h3=>
  unfold stepT at h;dsimp only at h;split at h
  . rename_i d1 g1 e1;exact Ak (aW hS ct hK h1 e1) (uZ hS ct hK h2 h) h3
  . cases h
 |neg h1=>exact plain h λ_=>rfl
 |not h1=>
  unfold stepT at h;dsimp only at h;split at h
  . rename_i b' g1 e1;cases h;exact Li (hS.t ct hK h1 e1)
  . cases h
 |and h1=>exact (sH hS ct hK h1 h).tr
 |or h1=>exact (wu hS ct hK h1 h).tr
 |ite h1 h2 h3=>cases h
 |tup h1=>exact plain h λ_=>rfl
 |lst h1=>exact plain h λ_=>rfl
 |ix h1 h2=>exact plain h λ_=>rfl
 |slice h1 h2 h3=>exact plain h λ_=>rfl
 |call h1 h2 h3 h4=>exact plain h λ_=>rfl
 |blt h1 h2 h3 h4=>exact plain h λ_=>rfl
 |jV h1 h2 h3 h4 h5 h6 h7=>exact plain h λ_=>rfl
 |mV h1 h2 h3 h4 h5=>exact plain h λ_=>rfl
 |rev h1=>exact plain h λ_=>rfl
 |emp=>exact plain h λ_=>rfl
 |comp h1 h2 h3 h4 h5 h6 h7 h8=>exact plain h λ_=>rfl
 |iT h1 h2 h3 h4 h5 h6 h7 h8=>exact plain h λ_=>rfl
 |fM h1 h2 h3 h4 h5=>exact plain h λ_=>rfl
 |sset h1 h2 h3 h4 h5=>exact plain h λ_=>rfl
 |append h1 h2 h3 h4 h5=>exact plain h λ_=>rfl
 |extend h1 h2 h3 h4 h5=>exact plain h λ_=>rfl
 |fO h1 h2 h3 h4 h5=>exact plain h λ_=>rfl
theorem wA(ct:aX P k X c):PassesOwn (model X.prog X.w) X.A X.env X.xe:=by rw[ct.xe];exact PassesOwn.never
theorem lV{T:Tg}{body:List Stmt}{b:G->Option (Fl×G)}(hb:∀{g g':G}{f:Fl},b g=some (f,g')->cS X z body g f g'):∀{items:List D}{g g':G}{f:Fl},fQ T b items g=some (f,g')->cT X z body T items g f g'
 | [],_,_,_,h=>by cases h;exact .nil
 |d::l,_,_,_,h=>by
  unfold fQ at h;split at h
  . cases h
  .
   rename_i g0 e0;split at h
   . cases h
   . rename_i g1 e1;exact .next e0 (hb e1) (lV hb h)
   . rename_i g1 e1;exact .cont e0 (hb e1) (lV hb h)
   . rename_i g1 e1;cases h;exact .brk e0 (hb e1)
   . rename_i g1 e1;cases h;exact .ret e0 (hb e1)
theorem vd{ce:Expr}{body:List Stmt}{t:G->Option (Bool×G)}{b:G->Option (Fl×G)}(ht:∀{g g':G}{v:Bool},t g=some (v,g')->bV X z ce g v g')(hb:∀{g g':G}{f:Fl},b g=some (f,g')->cS X z body g f g') :
  ∀{n:Nat}{g g':G}{f:Fl},JG t b n g=some (f,g')->jT X z ce body n g f g'
 | 0,_,_,_,h=>by cases h
 |n+1,_,_,_,h=>by
  unfold JG at h;split at h
  . cases h
  . rename_i g1 e1;cases h;exact .done (ht e1)
  .
   rename_i g1 e1;split at h
   . cases h
   . rename_i g2 e2;exact .next (ht e1) (hb e2) (vd ht hb h)
   . rename_i g2 e2;exact .cont (ht e1) (hb e2) (vd ht hb h)
   . rename_i g2 e2;cases h;exact .brk (ht e1) (hb e2)
   . rename_i g2 e2;cases h;exact .ret (ht e1) (hb e2)
theorem lW{P:Pg}{c:Ct}{e:Expr}{x:Ex}(h:Cm P c e x)(hn:jX (λ_ _=>true) e=false)(t:Option Expr)(l:Nat)(env:Env):swapsWith e t l env=pure false:=by have hs:=h.se;cases e <;> first |rfl |exact Bool.noConfusion (show true=false from hn) |exact Bool.noConfusion (show false=true from hs)
theorem sM(ct:aX P k X c)(j3:c.df=true){a:Expr}{b:List Comprehension}{s:Scope}{p py:Pos}{y:Str}{l:Nat}(hl:jW c y=true):swapsWith (.ListComp a b s p) (some (.Name y py)) l X.env=pure (NB c y py p s):=by
 show (pure (X.env.blockKind==.function&&X.env.kindOf y==some .local&&py.line==(Expr.ListComp a b s p).pos.line&&!(s.names.any λ(n,k)=>n==y&&(k==.local||k==.cell))):Sem Bool)=_
 rw[ct.bk j3];have e:(X.env.kindOf y==some .local)=(c.sc.names.lookup y==some .local):=by
  unfold jW at hl;split at hl
  . rename_i e;rw[e];show (X.env.scope.names.lookup y==_)=_;rw[ct.Qh y e]
  . rename_i e;rw[e];show (X.env.scope.names.lookup y==_)=_;rw[ct.W3 j3 y e]
  . cases hl
 rw[e];rfl
theorem yG(ct:aX P k X c)(j3:c.df=true){e:Expr}{x:Ex}{y:Str}{py:Pos}{l:Nat}(hl:jW c y=true)(h:Cm P c e x)(hn:jX (λs p=>NB c y py p s) e=false):swapsWith e (some (.Name y py)) l X.env=pure false:=by have hs:=h.se;cases e <;> first |rfl |exact Bool.noConfusion (show true=false from hn) |exact Bool.noConfusion (show false=true from hs) | (rw[sM ct j3 hl];exact congrArg pure hn)
def Od:Expr->Bool
 |.Starred ..=>true
 |_=>false
theorem Dh{e:Expr}{x:Ex}(h:Cm P c e x):Od e=false:=by have hs:=h.se;cases e <;> first |rfl |exact Bool.noConfusion (show false=true from hs)
theorem Oe{x:Str}{pn dw:Pos}{ix:Expr}{xi:Ex}{X:Cx}(h:Cm P c ix xi):∀v,assign (.Subscript (.Name x pn) ix dw) X.env v=(do
   let ov <- holding [v] (eval (.Name x pn) X.env)
   let iv <- holding [v,ov] (eval ix X.env)
   standAt dw
   holding [v,ov,iv] (setItem ov iv v)
   release [v,ov,iv] []):=by
 have hs:=h.se;cases ix <;> first |exact λ_=>rfl |exact Bool.noConfusion (show false=true from hs)
theorem Og{es:List Expr}{k0:Nat}{pt:Pos}{e:Expr}{x:Ex}{env:Env}(h:Cm P c e x)(hn:∀vs k p,e≠.Tuple vs k p):swappedStores [.Tuple es k0 pt] e env=pure none:=by have hs:=h.se;cases e <;> first |rfl |exact absurd rfl (hn _ _ _) |exact Bool.noConfusion (show false=true from hs)
theorem sN{α β:Type}{f:α->Option β}:∀{l:List α}{a:α},a∈l->f a=none->(l.filterMap f).length<l.length
 |b::l,a,h,e=>by
  have hle:=List.length_filterMap_le f l;rcases dS.mp h with rfl |h
  . rw[List.filterMap_cons_none e,i6];exact Nat.lt_succ_of_le hle
  .
   have:=sN h e;rw[i6,t8];split
   . exact Nat.lt_succ_of_le hle
   . rw[i6];exact Nat.succ_lt_succ this
theorem Oh{es:List Expr}{k0:Nat}{pt:Pos}{e:Expr}(ct:aX P k X c)(h:Hy c es e=true):swappedStores [.Tuple es k0 pt] e X.env=pure none:=by
 obtain⟨h1,h2⟩:=aj h;obtain⟨h3,h4⟩:=aj h2;obtain⟨a,ha,h5⟩:=List.any_eq_true.mp h4;unfold Sy at h5;split at h5
 .
  rename_i x ex;obtain⟨px,rfl⟩:∃p,a=.Name x p:=by cases a <;> first | (cases ex;exact⟨_,rfl⟩) |cases ex
  have hx:X.env.kindOf x=some .cell:=ct.W3 h3 x (nS h5);obtain⟨vs,k2,vq,rfl⟩:∃vs k p,e=.Tuple vs k p:=by cases e <;> first |exact⟨_,_,_,rfl⟩ |cases h1
  show (if _ then _ else _:Sem (Option (List Str)))=_
  split
  . rfl
  .
   show (if _ then _ else _:Sem (Option (List Str)))=_
   split
   . rfl
   .
    show (if _ then _ else _:Sem (Option (List Str)))=_
    rw[fN];rw[x5];refine .inl ?_;rw[bne_iff_ne];refine kA (sN ha ?_);simp only[hx];rfl
 . cases h5
theorem Oi{es:List Expr}{k0:Nat}{pt:Pos}{e:Expr}{x:Ex}(ct:aX P k X c)(h:Cm P c e x)(hn:(∀vs k p,e≠.Tuple vs k p)\/Hy c es e=true):swappedStores [.Tuple es k0 pt] e X.env=pure none:=
 hn.elim (Og h) (Oh ct)
theorem Oj{y:Str}{pn dw:Pos}{ix e:Expr}{x:Ex}{env:Env}(h:Cm P c e x):swappedStores [.Subscript (.Name y pn) ix dw] e env=pure none:=by have hs:=h.se;cases e <;> first |rfl |exact Bool.noConfusion (show false=true from hs)
theorem Ol{x y:Str}{a b:Expr}{px py pt vq:Pos}{kt k2:Nat}{xa xb:Ex}(ct:aX P k X c)(h:Hx c x y px py a b=true)(ca:Cm P c a xa)(cb:Cm P c b xb):X.env.scope.names.lookup x=some .local/\X.env.scope.names.lookup y=some .local/\
  swappedStores [.Tuple [.Name x px,.Name y py] kt pt] (.Tuple [a,b] k2 vq) X.env=pure (some [x,y]):=by
 unfold Hx at h;simp only[eJ]at h;obtain⟨⟨⟨⟨⟨⟨h1,h2⟩,h3⟩,h4⟩,h5⟩,h6⟩,h7⟩:=h;have e1:=ct.Qh x (eq_of_beq h1);have e2:=ct.Qh y (eq_of_beq h2);refine⟨e1,e2,?_⟩;have hb:=ct.bk h7;have sa:=Dh ca;have sb:=Dh cb;have k1:X.env.kindOf x=some .local:=e1;have k2':X.env.kindOf y=some .local:=e2;have hxy:(y==x)=false:=by
  simp only[Bool.not_eq_true']at h4;rw[CI]at h4 ⊢
  exact λe=>h4 e.symm
 have h3':py.line=px.line:=eq_of_beq h3;show (if _ then _ else _:Sem (Option (List Str)))=_
 rw[fI (by rw[hb];simp)]
 show (if _ then _ else _:Sem (Option (List Str)))=_
 rw[fI (by show ¬ ((Od a||(Od b||false))=true);rw[sa,sb];decide)]
 show (if _ then _ else _:Sem (Option (List Str)))=_
 dsimp only;generalize hq:List.filterMap _ [Expr.Name x px,Expr.Name y py]=ns;have hn:ns=[x,y]:=by rw[<- hq];have l0:(([Expr.Name x px,Expr.Name y py].head?.map (·.pos.line)).getD 0)=px.line:=rfl;simp[t8,k1,k2',h3',Expr.pos]
 subst hn;have hd:[x,y].eraseDups.length=2:=by have gG:y≠x:=CI.mp hxy;simp[List.eraseDups_cons,Cf,gG]
 rw[fI (by rw[hd];simp)]
 show (if _ then _ else _:Sem (Option (List Str)))=_
 rw[fI (by show ¬ ((foldedForSure 8 a&&(foldedForSure 8 b&&true))=true);rw[Bool.and_true];intro z;rw[z]at h5;exact absurd h5 ⋯)]
 show (if _ then _ else _:Sem (Option (List Str)))=_
 rw[fI (by show ¬ ((constantsAlone 8 a&&(constantsAlone 8 b&&true))=true);rw[Bool.and_true];intro z;rw[z]at h6;exact absurd h6 ⋯)]
theorem sO(hS:kr P rn)(ct:aX P k X c)(j3:c.df=true)(hK:z.K=X.K){s:Stmt}{x:Sm}{g g':G}{f:Fl}(hc:Ek P c s x)(h:aE rn z.bor k x g=some (f,g')):gW X z s g f g':=by
 cases hc.out with
 |ret h1=>
  unfold aE at h;dsimp only at h;split at h
  . rename_i r g1 e1;cases h;exact Mm (hS.e ct hK h1 e1)
  . cases h
 |expr h1 h2=>
  unfold aE at h;dsimp only at h;split at h
  . rename_i r g1 e1;cases h;exact Gm (hS.e ct hK h1 e1) (lW h1 h2 _ _ _)
  . cases h
 |@set y i e x py pos h1 h2 h3 h4=>
  have nm:=ct.nm h1 h2;have hsw:swapsWith e (some (.Name y py)) pos.line X.env=pure false:=yG ct j3 h2 h3 h4;unfold aE at h;dsimp only at h;split at h
  . cases h
  .
   rename_i hb;split at h
   .
    rename_i l g1 e1;split at h
    . rename_i hl;cases h;exact Gp nm.nd nm.ix nm.lc (hS.e ct hK h3 e1) hl hsw nm.fn hb
    . cases h
   .
    rename_i r g1 _ e1;split at h
    . rename_i d g2 e2;cases h;exact Gn nm.nd nm.ix nm.lc (CQ (hS.e ct hK h3 e1) e2) hsw nm.fn hb
    . cases h
   . cases h
 |@setC y i a b s p n kk T it co x py pos h1 h2 h3=>
  have hl:c.sc.names.lookup y=some .local:=by unfold NB at h2;simp only[eJ]at h2;exact eq_of_beq h2.1.1
  have dH:jW c y=true:=by unfold jW;rw[hl]
  have nm:=ct.nm h1 dH;unfold aE at h;dsimp only at h;split at h
  . cases h
  .
   rename_i hb;split at h
   .
    rename_i acc g1 e1;split at h
    .
     rename_i hi;cases h;cases h3.out with
     |comp k1 k2 k3 k4 k5 k6 k7 k8=>obtain⟨items,g1,gE,w1,w2,w3,w4,w5,rfl⟩:=sL hS ct hK k3 k4 k5 k6 k7 k8 e1;exact Gy (qi ct k1) ct.calm (by rw[ct.N];exact jA k2) w1 w2 w3 w4 w5 nm.nd nm.ix (ct.Qh _ hl) hb hi (by rw[sM ct j3 dH,h2]) λy=>k6.folded y
    . cases h
   . cases h
 |@tgt es k0 pt pos T e x h1 h2 h3 h4=>
  unfold aE at h;dsimp only at h;split at h
  . cases h
  .
   rename_i hb;split at h
   .
    rename_i d g1 e1;split at h
    .
     rename_i g2 e2;cases h;obtain⟨t,q,kt⟩:=wz (z:=z) ct hK h1 λi hi hm=>hb (by rw[List.any_eq_true];exact⟨i,hi,sT hm⟩)
     obtain⟨te,qe,ke⟩:=aW hS ct hK h2 e1;have hsw:swapsWithSole [.Tuple es k0 pt] e pos.line X.env=pure false:=lW h2 h4 (some (.Tuple es k0 pt)) pos.line X.env;have dH:swappedStores [.Tuple es k0 pt] e X.env=pure none:=Oi ct h2 h3;refine⟨_,zh qe q hsw dH rfl,λσ As M H E s k2=>ke σ As M H _ s λv H1 aR M1 s1 dc R=>?_⟩
     exact kt d g1 _ e2 v σ aR M1 H1 _ s1 R λσ' au s' _=>k2 σ' au M1 H1 s' dc
    . cases h
   . cases h
 |@item y i ix e xj x pn dw pos h1 h2 h3 h4 h5 h6=>
  obtain⟨hd,cM⟩:=fS h3;unfold aE at h;dsimp only at h;split at h
  .
   rename_i d g1 e1;split at h
   .
    rename_i l0 e2;split at h
    .
     rename_i n g2 e3;split at h
     .
      rename_i l e4;split at h
      . rename_i m e5;cases h;have hsw:swapsWithSole [.Subscript (.Name y pn) ix dw] e pos.line X.env=pure false:=lW h5 h6 (some (.Subscript (.Name y pn) ix dw)) pos.line X.env;have dH:swappedStores [.Subscript (.Name y pn) ix dw] e X.env=pure none:=Oj h5;exact Gq (by rw[ct.N];exact h1) (ct.vis h2) hd cM (aW hS ct hK h5 e1) e2 (aW hS ct hK h4 e3) e4 e5 (Oe h4) hsw dH rfl
      . cases h
     . cases h
    . cases h
   . cases h
  . cases h
 |@par x y i j a b xa xb px py pt vq pos kt k2 h1 h2 h3 h4 h5 h6=>
  unfold aE at h;dsimp only at h;split at h
  . cases h
  .
   rename_i hbi;split at h
   . cases h
   .
    rename_i Ww;split at h
    . rename_i d1 d2 g1 e1;cases h;obtain⟨w1,w2,w3⟩:=Ol (k2:=k2) (kt:=kt) (pt:=pt) (vq:=vq) ct h4 h5 h6;exact MN ct.calm (ct.N▸ct.nd) (by rw[ct.N];exact h1) (by rw[ct.N];exact h2) h3 w1 w2 (d9 hS ct hK (.cons h5 (.cons h6 .nil)) e1) hbi Ww w3 rfl
    . cases h
 |ite h1 h2 h3=>
  unfold aE at h;dsimp only at h;split at h
  . rename_i g1 e1;exact Jv (hS.t ct hK h1 e1) (by rw[fN rfl];exact hS.b ct j3 hK h2 h)
  . rename_i g1 e1;exact Jv (hS.t ct hK h1 e1) (by rw[fI kS];exact hS.b ct j3 hK h3 h)
  . cases h
 |loop h1 h2 h3=>
  unfold aE at h;dsimp only at h;split at h
  . cases h
  .
   rename_i hb;split at h
   . rename_i items g1 e1;exact Mv (wA ct) ct.calm (u5 hS ct hK (CZ h1) h2 e1) (wz ct hK h1 λi hi hm=>hb (by rw[List.any_eq_true];exact⟨i,hi,sT hm⟩)) (lV (λe=>hS.b ct j3 hK h3 e) h) λy=>h2.folded y
   . cases h
 | «while» h1 h2=>exact Al (wA ct) (vd (λe=>hS.t ct hK h1 e) (λe=>hS.b ct j3 hK h2 e) h)
 |stuck=>cases h
theorem Di(hS:kr P rn)(ct:aX P k X c)(j3:c.df=true)(hK:z.K=X.K){ss:List Stmt}{x:Sm}{g g':G}{f:Fl}(h:NP P (Cm P c) (Ek P c) c ss x)(e:aE rn z.bor k x g=some (f,g')):Bj X z ss g f g':=by
 cases h with
theorem lX(hS:kr P rn)(ct:aX P k X c)(j3:c.df=true)(hK:z.K=X.K):∀{qC:List Stmt}{xs:List Sm}{g g':G}{f:Fl},CP P c qC xs->cX rn z.bor k xs g=some (f,g')->cS X z qC g f g'
 |_,_,_,_,_,.nil,h=>by cases h;exact Mi
 |_,_,_,_,f,.grp h1 h2,h=>by
  unfold cX at h;split at h
  . rename_i g1 e1;exact (Di hS ct j3 hK h1 e1).bk (lX hS ct j3 hK h2 h)
  . rename_i hn e1;cases h;exact (Di hS ct j3 hK h1 e1).end λe=>hn e
  . cases h
 |_,_,_,_,f,.cons h1 h2,h=>by
  unfold cX at h;split at h
  . rename_i g1 e1;exact Gk (sO hS ct j3 hK h1 e1) (lX hS ct j3 hK h2 h)
  .
   rename_i hn e1;cases h;have q:=sO hS ct j3 hK h1 e1;cases f with
   |nx=>exact absurd rfl hn
   |rt r=>exact Mj q
   |bk=>exact Mk q
   |ct=>exact Ml q
  . cases h
end
theorem sP{P:Pg}{fns:List Fx}(hF:lU P fns):∀n,kr P (run fns n)
 | 0=>⟨λ_ _ _ h=>(by cases h),λ_ _ _ h=>(by cases h),λ_ _ _ _ h=>(by cases h)⟩
 |n+1=>
  let a:=sP hF n
  ⟨λct hK hc h=>Df a ⟨⟩ hF ct hK hc h,λct hK hc h=>Dg a ct hK hc h,λct j3 hK hc h=>lX a ct j3 hK hc h⟩
theorem Ie{P:Pg}{fns:List Fx}(hF:lU P fns)(n:Nat):kr P (run fns n):=sP hF n
def eu(K:Frag)(mg:Str->Option Value)(fi:Fi):Prop:=
 ∃f fd,mg fi.name=some (.ref f)/\Rk K fi.name fi.qual fi.st f fd/\dB fi.N fi.ps (aJ fi.st)/\(∀us:List Value,us.length=fi.ps.length->bindArgs fd ⟨us,[]⟩=pure (fi.ps.zip us))/\(fi.name==("__debug__":Str))=false
def Om(K:Frag)(mg:Str->Option Value)(p:Str×D):Prop:=(p.1==("__debug__":Str))=false/\∃v u,mg p.1=some u/\RelV v u/\∀M H,Rep K M H p.2 v
inductive All{α:Type}(p:α->Prop):List α->Prop
 |nil:All p []
 |cons {a:α}{l:List α}:p a->All p l->All p (a::l)
theorem All.mem{α:Type}{p:α->Prop}:∀{l:List α},All p l->∀a∈l,p a
 |_,.nil,_,h=>nomatch h
 |_,.cons h t,a,hm=>(dS.mp hm).elim (λe=>e▸h) (All.mem t a)
structure Oo(P:Pg)(K:Frag)(mg:Str->Option Value):Prop where
 lam:P.lam=true->∀dG,PySem.W.codeIn K dG "law"=true->Nu K mg dG
 JH:∀(i:Nat) (C:Addr),P.JH[i]?=some C->∃x,P.cls[i]?=some x/\mg x=some (.ref C)/\xT K C/\Rp K C
 kt:P.lam=true->(P.kt==("__debug__":Str))=false/\∃D,mg P.kt=some (.ref D)/\xT K D/\∀C∈P.JH,R8 K C D=true
 ups:∀(x:Str) (l:List (Addr×Bool)),(x,l)∈P.ups->(x==("__debug__":Str))=false/\∃cv,((mg x=some cv/\∃D,cv=.ref D)\/(x∈P.bn/\x≠ "__name__" /\bootBuiltins x=some cv/\∃n,cv=.type n))/\PySem.W.kitOne K (.type "NoneType") cv=some false/\∀C b,l.lookup C=some b->PySem.W.kitOne K (.ref C) cv=some b
theorem Ig{P:Pg}{K:Frag}{mg:Str->Option Value}(h1:P.lam=false)(h2:P.JH=[])(h3:P.ups=[]):Oo P K mg:=
 ⟨λh=>(by rw[h1]at h;cases h),λi C h=>(by rw[h2]at h;cases h),λh=>(by rw[h1]at h;cases h),λx l h=>(by rw[h3]at h;cases h)⟩
theorem Tf{P:Pg}{K:Frag}{mg:Str->Option Value}(h1:All (eu K mg) P.fn)(h2:All (Om K mg) P.ct)(h3:All (λx=>mg x=none) P.bn)(h4:All (λx=>(x==("__debug__":Str))=false/\∃C,mg x=some (.ref C)/\xT K C) P.cls)(h5:Oo P K mg):yx P K mg:=
 ⟨λi fi e=>let ⟨f,fd,q1,q2,q3,q4,q5⟩:=h1.mem fi (mB e);⟨f,fd,q1,q2,q3,.all q4,q5⟩,λx d h=>h2.mem (x,d) h,λx h=>h3.mem x h,λx h=>h4.mem x h,h5.lam,h5.JH,h5.kt,h5.ups⟩
def Xh(fi:Fi):Prop:=∀(kV doc pm:Value) (an:Option Addr) (dG ct:Value) (us:List Value),us.length=fi.ps.length->bindArgs (PySem.W.fnOf fi.name fi.qual (fX fi.st) (bx fi.st) (aJ fi.st) .none kV doc pm an dG ct) ⟨us,[]⟩=pure (fi.ps.zip us)
section
variable{K:Frag}
theorem Ti{fi:Fi}{oc:Value}{od an:Option Addr}{osl:Array (Option Value)}{kV doc pm dG ct:Value}(X:K.In h)(G:h.Ns mainGlobals mg)(a:PySem.W.nsIn K mainGlobals fi.name=some (some (.ref f)))
  (l:K.lookup f=some ⟨oc,od,.func (PySem.W.fnOf fi.name fi.qual (fX fi.st) (bx fi.st) (aJ fi.st) .none kV doc pm an dG ct),osl⟩) (c:PySem.W.codeIn K dG fi.qual=true) (k:PySem.W.keepIn K (.ref f)=true)
  (sc:dB fi.N fi.ps (aJ fi.st)) (hb:Xh fi)
  (hd:(fi.name==("__debug__":Str))=false):eu K mg fi:=
 let F:=K5 (x:=fi.name) (qual:=fi.qual) (st:=fi.st) l c k
 ⟨f,_,PySem.W.mg_of X G a,F,sc,hb kV doc pm an dG ct,hd⟩
theorem Oq{x:Str}{i:Int}{t:Tok}(X:K.In h)(G:h.Ns mainGlobals mg)(a:PySem.W.nsIn K mainGlobals x=some (some (.int i t)))(hd:(x==("__debug__":Str))=false):Om K mg (x,.int i):=
 ⟨hd,.int i,.int i t,PySem.W.mg_of X G a,⟨t,rfl⟩,λ_ _=>.int i⟩
theorem Ot{P:Pg}{fns:List Fx}{prog:Program}{w:World}{base:Heap}(hF:lU P fns)(md:yx P K mg){i:Nat}{fi:Fi}{fx:Fx}{x:Str}{fd:FuncData}{n k:Nat}(Td:P.fn[i]?=some fi)(yX:fns[i]?=some fx)(hp:fi.ps=[x])(F:Rk K fi.name fi.qual fi.st f fd)(sc:dB fi.N fi.ps (aJ fi.st)) :
  mH prog w K mg base Ec (k+1) f fd [x] (Mp K fi.N 1 λbor g r g'=>(run fns n).b bor k fx.body g=some (.rt r,g')):=by
 have:=Jx (P:=prog) (w:=w) (mg:=mg) (base:=base) (k:=k) (N:=fi.N) (ps:=fi.ps) (run:=λbor g r g'=>(run fns n).b bor k fx.body g=some (.rt r,g')) F sc λdG A outer s H E cM hr z g r g' hK hrun=>
  ⟨_,(Ie hF n).b (sJ sc md cM hr) rfl hK (hF i fi fx Td yX).body hrun,.inl rfl⟩
 rw[hp]at this;exact this
theorem Dj{P:Pg}{fns:List Fx}{prog:Program}{w:World}(hF:lU P fns)(md:yx P K mg){i:Nat}{fi:Fi}{fx:Fx}{x:Str}{n k:Nat}(Td:P.fn[i]?=some fi)(yX:fns[i]?=some fx)(hp:fi.ps=[x])(h:eu K mg fi)(hm:mg fi.name=some (.ref f)) :
  ∃fd:FuncData,(∀(s:Shared) (u:Value),BindsTo s fd ⟨[u],[]⟩ [(x,u)])/\∀base:Heap,K.In base->base.Ns mainGlobals mg->mH prog w K mg base Ec (k+1) f fd [x] (Mp K fi.N 1 λbor g r g'=>(run fns n).b bor k fx.body g=some (.rt r,g')):=by
 obtain⟨f',fd,q1,q2,q3,q4,q5⟩:=h;rw[hm]at q1;cases q1;refine⟨fd,λs u=>.of_eq ?_,λbase _ _=>Ot hF md Td yX hp q2 q3⟩
 have:=q4 [u] (by rw[hp];rfl)
 rw[hp]at this;exact this
theorem Ou{N:List Str}{run:List Nat->G->R->G->Prop}(hev:∀ns:List Int,ns.length<=63->∃g',run [] (dm N.length [.dat (.fix (ns.map .int))]) (.dat (.bl true)) g')(K:Frag)(H:Hp)(a:Addr)(ns:List Int)(hl:ns.length<=63)(hO:vV ((dN K).map (·.1)) H)(hS:bU K H a (ns.map V.int)) :
  Mp K N 1 run [.ref a] H (λv _=>v=.bl true) λ_ _ _=>False:=by
 obtain⟨g',hg⟩:=hev ns hl;have fx:kM K ((dN K).map (·.1)) H a (ns.map V.int):=by
  rcases hS with h |h
  .
   rcases hO a with ⟨_,z⟩ |⟨na,z⟩
   . rcases h with h |⟨o,h⟩ <;> (rw[z]at h;cases h)
   .
    refine .inl ⟨na,?_⟩;rcases h with h |h
    .
     rcases z with z |⟨o,xs,z⟩
     . rw[z]at h;cases h
     . rw[z]at h;cases h
    . exact h
  . exact .inr (.inr h)
 have rr:∀ns:List Int,aC K ((dN K).map (·.1)) H (ns.map D.int) (ns.map V.int):=λns=>by
  induction ns with
  |nil=>exact .nil
  |cons n ns ih=>exact .cons (.int n) ih
 have tb:∀p∈dN K,H p.1=some (.yS #[]):=λp hp=>by
  rcases hO p.1 with ⟨_,z⟩ |⟨z,_⟩
  . exact z
  . exact absurd (lS.mpr ⟨p,hp,rfl⟩) z
 refine⟨rfl,⟨K,H,(dN K).map (·.1),[],dN K⟩,dm N.length [.dat (.fix (ns.map .int))],g',[],(dN K).map (·.1),.dat (.bl true),rfl,?_,hg,λv σ' au M' H' s' st R=>dZ R⟩
 refine⟨?_,wT,(λa ha=>nomatch ha),λi b l e1 e2=>?_,(λm hm=>.inr hm),(λb o e _ _=>e),(λm hm=>hm),(λm hm=>?_),(λb hb=>nomatch hb),(λp hp=>nomatch hp),(λp hp=>⟨#[],tb p hp,trivial,λpos cv e=>nomatch e⟩),(λp hp=>lS.mpr ⟨p,hp,rfl⟩),rfl⟩
 . exact Slots.append (A1:=[]) (.dat (.fix fx (rr ns)) .nil) (Slots.Ul _)
 .
  exfalso;unfold dm at e1;cases i with
  |zero=>simp at e1
  |succ i=>rw[eD ⋯]at e1;have:=mB e1;rw[An]at this;exact absurd this.2 ⋯
 . obtain⟨p,hp,rfl⟩:=lS.mp hm;intro z;have z:H p.1=none:=z;rw[tb p hp]at z;cases z
end
noncomputable abbrev Fi.ct(fi:Fi):Ct:=⟨fi.N,aJ fi.st,true,fi.qual⟩
def wB(P:Pg)(fi:Fi)(fx:Fx):List Stmt:=mZ (N8 P 99 (JM P 99 20 fi.ct) fi.ct) (JM P 99 20 fi.ct) fx.body (bx fi.st)
def Xi(P:Pg)(fi:Fi)(fx:Fx):Bool:=decide (fx.np=fi.ps.length)&&(decide (fx.n=fi.N.length)&&Ej (N9 P 99 (JN P 99 20 fi.ct) fi.ct) (JN P 99 20 fi.ct) fx.body (bx fi.st))
theorem Ov{P:Pg}{fi:Fi}{fx:Fx}(e:wB P fi fx=bx fi.st)(h:Xi P fi fx=true):Ib P fi fx:=⟨dec (aj h).1,dec (aj (aj h).2).1,Eq.mp (congrArg (λl=>CP P fi.ct l fx.body) e) (CP.mk (aj (aj h).2).2)⟩
def Dk(P:Pg):List Fi->List Fx->Bool
 |fi::l,fx::r=>Xi P fi fx&&Dk P l r
 |_,_=>true
theorem Ih{P:Pg}{l:List Fi}{r:List Fx}(e:List.zipWith (wB P) l r=l.map λfi=>bx fi.st)(h:Dk P l r=true)(f:Nat)(fi:Fi)(fx:Fx)(h1:l[f]?=some fi)(h2:r[f]?=some fx):Ib P fi fx:=by
 induction l generalizing r f with
 |nil=>cases h1
 |cons a l ih=>cases r with
  |nil=>cases h2
  |cons b r=>
   have h:(Xi P a b&&Dk P l r)=true:=h;cases f with
   |zero=>cases h1;cases h2;exact Ov (List.cons.inj e).1 (aj h).1
   |succ f=>exact ih (List.cons.inj e).2 (aj h).2 f h1 h2
theorem Ow{P:Pg}{fns:List Fx}(h:Dk P P.fn fns=true)(e:List.zipWith (wB P) P.fn fns=P.fn.map λfi=>bx fi.st):lU P fns:=λf fi fx h1 h2=>Ih e h f fi fx h1 h2
theorem Tj{us:List Value}(h:us.length=1):∃a,us=[a]:=by
 cases us with
 |nil=>cases h
 |cons a us=>cases us with
  |nil=>exact⟨a,rfl⟩
  |cons _ _=>cases h
theorem Tn{us:List Value}(h:us.length=2):∃a b,us=[a,b]:=by
 cases us with
 |nil=>cases h
 |cons a us=>obtain⟨b,rfl⟩:=Tj (Bz h);exact⟨a,b,rfl⟩
theorem Xj{us:List Value}(h:us.length=3):∃a b c,us=[a,b,c]:=by
 cases us with
 |nil=>cases h
 |cons a us=>obtain⟨b,c,rfl⟩:=Tn (Bz h);exact⟨a,b,c,rfl⟩
def fU(st:Stmt):Fi:=match st with
 |.FunctionDef name args _ _ _ _ scope _ _ _=>⟨name,name,st,(args.args.map (·.arg))++scope.names.filterMap (λy=>if (y.2==.local||y.2==.cell)&&!(args.args.map (·.arg)).contains y.1 then some y.1 else none),args.args.map (·.arg)⟩
 |st=>⟨"", "",st,[],[]⟩
section
theorem Dl(ds:List D):∀i,vars i (ds.map R.dat)=[]:=by
 induction ds with
 |nil=>intro i;rfl
 |cons d ds ih=>intro i;exact ih (i+1)
theorem Dm(ds:List D):bX (ds.map R.dat) g1=some (ds.map .dat):=by
 induction ds with
 |nil=>rfl
 |cons d ds ih=>
  show (match bX (ds.map R.dat) g1 with |some gs=>some (Slot.dat d::gs) |none=>none)=_
  rw[ih];rfl
noncomputable def Qj:List D->G
 | []=>[]
 |d::l=>.dat d::Qj l
theorem Ii(ds:List D):Qj ds=ds.map .dat:=by
 induction ds with
 |nil=>rfl
 |cons d ds ih=>rw[Qj,ih];rfl
def cu(rn:Rn)(k:Nat)(fx:Fx)(ds:List D):Option R:=match rn.b [] k fx.body (dm fx.n (Qj ds))with
 |some (.rt r,gc)=>gX [] gc r
 |some (.nx,_)=>some (.dat .non)
 |_=>none
theorem jB{fx:Fx}{ds:List D}(hl:ds.length=fx.np):aO rn fx k (ds.map .dat) g1=(cu rn k fx ds).map λr=>(r,g1):=by
 unfold aO cu;rw[Dl,Dm,Ii];simp only[gL,hl,List.map_nil,wT,and_self,A9];cases rn.b [] k fx.body (dm fx.n (ds.map .dat))with
 |none=>rfl
 |some p=>
  obtain⟨f,gc⟩:=p;cases f with
  |nx=>rfl
  |rt r=>simp only[back];cases gX [] gc r <;> rfl
  |bk=>rfl
  |ct=>rfl
noncomputable def gM(g m:G)(acc:List D):G:=g++(m++[.own acc])
theorem gf{g m:G}{acc:List D}{i:Nat}(h:i<g.length):(gM g m acc)[i]?=g[i]?:=by unfold gM;rw[dL h]
theorem eN{g m:G}{acc:List D}{i:Nat}(h:i<m.length):(gM g m acc)[g.length+i]?=m[i]?:=by unfold gM;rw[eD ⋯,wP,dL h]
theorem gg{g m:G}{acc:List D}:(gM g m acc)[g.length+m.length]?=some (.own acc):=by unfold gM;rw[eD ⋯,wP,eD (eA _),Nat.sub_self];rfl
theorem eS{g m:G}{acc:List D}{i:Nat}{s:Slot}(h:i<m.length):(gM g m acc).set (g.length+i) s=gM g (m.set i s) acc:=by unfold gM;rw[B8 _ _ ⋯,wP,List.set_append_left _ _ h]
theorem fV{g m:G}{acc acc':List D}:(gM g m acc).set (g.length+m.length) (.own acc')=gM g m acc':=by unfold gM;rw[B8 _ _ ⋯,wP,B8 _ _ (eA _),Nat.sub_self];rfl
theorem qj{g m:G}{acc:List D}:(gM g m acc).take g.length=g:=by unfold gM;simp
theorem Dn{kk:Nat}:gC kk g=gM g (List.replicate kk .no) []:=rfl
theorem qk{α:Type}{T:Tg}{last kk:Nat}{c:Option Ex}{e:Ex}(bT:α->D)(f:α->D)(p:α->Bool)(st:α->G->G)(fF:last=g.length+kk)(dH:∀d m,m.length=kk->(st d m).length=kk) :
  ∀(items:List α) (m:G) (acc:List D),m.length=kk->acc.length+items.length<=lim->
  (∀d∈items,∀m acc,m.length=kk->T.set (bT d) (gM g m acc)=some (gM g (st d m) acc))->
  (∀d∈items,∀m acc,m.length=kk->yW rn bor k c (gM g (st d m) acc)=some (p d,gM g (st d m) acc))->
  (∀d∈items,p d=true->∀m acc,m.length=kk->fz rn bor k e (gM g (st d m) acc)=some (f d,gM g (st d m) acc))->
  ∃m',m'.length=kk/\yw rn bor k T last c e (items.map bT) (gM g m acc)=some (gM g m' (acc++(items.filter p).map f))
 | [],m,acc,hm,_,_,_,_=>⟨m,hm,by simp[yw]⟩
 |d::items,m,acc,hm,hl,hT,hi,he=>by
  rw[i6]at hl;have q1:=hT d dC m acc hm;have q2:=hi d dC m acc hm;have hm':=dH d m hm;rw[List.map_cons];unfold yw;rw[q1];dsimp only;rw[q2];cases hp:p d with
  |false=>
   dsimp only;obtain⟨m',w1,w2⟩:=qk bT f p st fF dH items (st d m) acc hm' ⋯ (λx hx=>hT x (b0 _ hx)) (λx hx=>hi x (b0 _ hx)) (λx hx=>he x (b0 _ hx))
   exact⟨m',w1,by rw[w2,Cf,hp];rfl⟩
  |true=>
   have q3:=he d dC hp m acc hm;dsimp only;rw[q3];dsimp only;have q4:(gM g (st d m) acc)[last]?=some (.own acc):=by rw[fF,<- hm'];exact gg
   rw[q4];dsimp only;rw[fN ⋯];have q5:(gM g (st d m) acc).set last (.own (acc++[f d]))=gM g (st d m) (acc++[f d]):=by rw[fF,<- hm'];exact fV
   rw[q5];obtain⟨m',w1,w2⟩:=qk bT f p st fF dH items (st d m) (acc++[f d]) hm' (by rw[eQ,oQ];lia) (λx hx=>hT x (b0 _ hx)) (λx hx=>hi x (b0 _ hx)) (λx hx=>he x (b0 _ hx))
   refine⟨m',w1,?_⟩;rw[w2,Cf,hp];simp
theorem oz{α:Type}{kk nn:Nat}{T:Tg}{it:Ex}{c:Option Ex}{e:Ex}(items:List α)(bT:α->D)(f:α->D)(p:α->Bool)(st:α->G->G)(hw:eY rn bor k T.jx it g=some (items.map bT,g1))(hn:nn=g1.length)(hb:(T.ix.any λi=>decide (i∈bor))=false)(hl:items.length<=lim)(dH:∀d m,m.length=kk->(st d m).length=kk)
  (hT:∀d∈items,∀m acc,m.length=kk->T.set (bT d) (gM g1 m acc)=some (gM g1 (st d m) acc))
  (hi:∀d∈items,∀m acc,m.length=kk->yW rn bor k c (gM g1 (st d m) acc)=some (p d,gM g1 (st d m) acc))
  (he:∀d∈items,p d=true->∀m acc,m.length=kk->fz rn bor k e (gM g1 (st d m) acc)=some (f d,gM g1 (st d m) acc)) :
  cJ rn bor k nn kk T it c e g=some ((items.filter p).map f,g1):=by
 subst hn;obtain⟨m',w1,w2⟩:=qk (rn:=rn) (bor:=bor) (k:=k) (g:=g1) (last:=g1.length+kk) bT f p st rfl dH items (List.replicate kk .no) [] ⋯ (by simpa using hl) hT hi he
 unfold cJ;rw[hw];dsimp only;rw[fN ⟨rfl,hb⟩,Dn,w2];dsimp only;have:(gM g1 m' ([]++(items.filter p).map f))[g1.length+kk]?=some (.own ([]++(items.filter p).map f)):=by rw[<- w1];exact gg
 rw[this];dsimp only;rw[qj,AX]
theorem Dp{j kk:Nat}{d:D}{m:G}{acc:List D}(hj:g.length<=j)(hk:j - g.length<m.length):(Tg.nm j).set d (gM g m acc)=some (gM g (m.set (j - g.length) (.dat d)) acc):=by
 show some ((gM g m acc).set j (.dat d))=_;have:=eS (g:=g) (acc:=acc) (s:=.dat d) hk;rw[show g.length+(j - g.length)=j by lia]at this
 rw[this]
def Ij(g:G)(j:Nat)(d:D)(G':G):Prop:=(∀i,i<g.length->G'[i]?=g[i]?)/\G'[j]?=some (.dat d)
theorem JR{α:Type}{kk nn j:Nat}{it:Ex}{c:Option Ex}{e:Ex}(items:List α)(bT:α->D)(p:α->Bool)(f:α->D)(hw:eY rn bor k false it g=some (items.map bT,g1))(hn:nn=g1.length)(hj1:g1.length<=j)(hj2:j<g1.length+kk)(hb:j∉bor)(hl:items.length<=lim)
  (hi:∀a∈items,∀G',Ij g1 j (bT a) G'->yW rn bor k c G'=some (p a,G')) (he:∀a∈items,p a=true->∀G',Ij g1 j (bT a) G'->fz rn bor k e G'=some (f a,G')) :
  cJ rn bor k nn kk (.nm j) it c e g=some ((items.filter p).map f,g1):=by
 have sees:∀(a:α) (m:G) (acc:List D),m.length=kk->Ij g1 j (bT a) (gM g1 (m.set (j - g1.length) (.dat (bT a))) acc):=λa m acc hm=>by
  refine⟨λi hi=>gf hi,?_⟩
  have:=eN (g:=g1) (m:=m.set (j - g1.length) (.dat (bT a))) (acc:=acc) (i:=j - g1.length) (by simp;lia)
  rw[show g1.length+(j - g1.length)=j by lia]at this
  rw[this,i9 ⋯]
 refine oz (T:=.nm j) items bT f p (λa m=>m.set (j - g1.length) (.dat (bT a))) hw hn (by simp[Tg.ix,hb]) hl (λd m hm=>by simpa using hm) (λa _ m acc hm=>Dp (kk:=kk) hj1 ⋯) (λa ha m acc hm=>hi a ha _ (sees a m acc hm)) λa ha hp m acc hm=>he a ha hp _ (sees a m acc hm)
theorem filter_all{α:Type}(l:List α):l.filter (λ_=>true)=l:=List.filter_eq_self.mpr λ_ _=>rfl
theorem lY{α:Type}{kk nn j:Nat}{it:Ex}{e:Ex}(items:List α)(bT:α->D)(f:α->D)(hw:eY rn bor k false it g=some (items.map bT,g1))(hn:nn=g1.length)(hj1:g1.length<=j)(hj2:j<g1.length+kk)(hb:j∉bor)(hl:items.length<=lim)
  (he:∀a∈items,∀G',Ij g1 j (bT a) G'->fz rn bor k e G'=some (f a,G')):cJ rn bor k nn kk (.nm j) it none e g=some (items.map f,g1):=by
 have:=JR (c:=none) items bT (λ_=>true) f hw hn hj1 hj2 hb hl (λ_ _ _ _=>rfl) λa ha _ G' hG=>he a ha G' hG
 rw[filter_all]at this;exact this
def wC(g:G)(j1 j2:Nat)(d1 d2:D)(G':G):Prop:=(∀i,i<g.length->G'[i]?=g[i]?)/\G'[j1]?=some (.dat d1)/\G'[j2]?=some (.dat d2)
theorem Tp{α:Type}{kk nn j1 j2:Nat}{it:Ex}{c:Option Ex}{e:Ex}(items:List α)(gB iu:α->D)(p:α->Bool)(f:α->D)(hw:eY rn bor k true it g=some (items.map λa=>.tup [gB a,iu a],g1))(hn:nn=g1.length)(hj1:g1.length<=j1)(Tq:j1<g1.length+kk)(hj2:g1.length<=j2)(Tr:j2<g1.length+kk)(gG:j1≠j2)(hb1:j1∉bor)(hb2:j2∉bor)(hl:items.length<=lim)
  (hi:∀a∈items,∀G',wC g1 j1 j2 (gB a) (iu a) G'->yW rn bor k c G'=some (p a,G')) (he:∀a∈items,p a=true->∀G',wC g1 j1 j2 (gB a) (iu a) G'->fz rn bor k e G'=some (f a,G')) :
  cJ rn bor k nn kk (.tp [j1,j2]) it c e g=some ((items.filter p).map f,g1):=by
 have sees:∀(a:α) (m:G) (acc:List D),m.length=kk->wC g1 j1 j2 (gB a) (iu a) (gM g1 ((m.set (j1 - g1.length) (.dat (gB a))).set (j2 - g1.length) (.dat (iu a))) acc):=λa m acc hm=>by
  refine⟨λi hi=>gf hi,?_,?_⟩
  .
   have:=eN (g:=g1) (m:=(m.set (j1 - g1.length) (.dat (gB a))).set (j2 - g1.length) (.dat (iu a))) (acc:=acc) (i:=j1 - g1.length) (by simp;lia)
   rw[show g1.length+(j1 - g1.length)=j1 by lia]at this
   rw[this,i4 ⋯,i9 ⋯]
  .
   have:=eN (g:=g1) (m:=(m.set (j1 - g1.length) (.dat (gB a))).set (j2 - g1.length) (.dat (iu a))) (acc:=acc) (i:=j2 - g1.length) (by simp;lia)
   rw[show g1.length+(j2 - g1.length)=j2 by lia]at this
   rw[this,i9 (by simp;lia)]
 refine oz (T:=.tp [j1,j2]) items (λa=>.tup [gB a,iu a]) f p (λa m=>(m.set (j1 - g1.length) (.dat (gB a))).set (j2 - g1.length) (.dat (iu a))) hw hn (by simp[Tg.ix,hb1,hb2]) hl (λd m hm=>by simpa using hm) (λa _ m acc hm=>?_) (λa ha m acc hm=>hi a ha _ (sees a m acc hm)) λa ha hp m acc hm=>he a ha hp _ (sees a m acc hm)
 have q1:=eS (g:=g1) (m:=m) (acc:=acc) (i:=j1 - g1.length) (s:=.dat (gB a)) ⋯;have q2:=eS (g:=g1) (m:=m.set (j1 - g1.length) (.dat (gB a))) (acc:=acc) (i:=j2 - g1.length) (s:=.dat (iu a)) (by simp;lia)
 rw[show g1.length+(j1 - g1.length)=j1 by lia]at q1
 rw[show g1.length+(j2 - g1.length)=j2 by lia]at q2
 show some (((gM g1 m acc).set j1 (.dat (gB a))).set j2 (.dat (iu a)))=_;rw[q1,q2]
theorem Ox{α:Type}{kk nn j1 j2:Nat}{it:Ex}{e:Ex}(items:List α)(gB iu:α->D)(f:α->D)(hw:eY rn bor k true it g=some (items.map λa=>.tup [gB a,iu a],g1))(hn:nn=g1.length)(hj1:g1.length<=j1)(Tq:j1<g1.length+kk)(hj2:g1.length<=j2)(Tr:j2<g1.length+kk)(gG:j1≠j2)(hb1:j1∉bor)(hb2:j2∉bor)(hl:items.length<=lim)
  (he:∀a∈items,∀G',wC g1 j1 j2 (gB a) (iu a) G'->fz rn bor k e G'=some (f a,G')):cJ rn bor k nn kk (.tp [j1,j2]) it none e g=some (items.map f,g1):=by
 have:=Tp (c:=none) items gB iu (λ_=>true) f hw hn hj1 Tq hj2 Tr gG hb1 hb2 hl (λ_ _ _ _=>rfl) λa ha _ G' hG=>he a ha G' hG
 rw[filter_all]at this;exact this
theorem wD{c:G->Option (Bool×G)}{b:G->Option (Fl×G)}(I:Nat->G->Prop)(step:∀m g,I (m+1) g->∃g1 g2,c g=some (true,g1)/\b g1=some (.nx,g2)/\I m g2)(fin:∀g,I 0 g->c g=some (false,g)) :
  ∀m N g,m<N->I m g->∃g',I 0 g'/\JG c b N g=some (.nx,g')
 | 0,N+1,g,_,h=>⟨g,h,by unfold JG;rw[fin g h]⟩
 |m+1,N+1,g,hN,h=>by
  obtain⟨g1,g2,q1,q2,q3⟩:=step m g h;obtain⟨g',w1,w2⟩:=wD I step fin m N g2 ⋯ q3;exact⟨g',w1,by unfold JG;rw[q1];dsimp only;rw[q2];exact w2⟩
theorem ez{α:Type}{T:Tg}{b:G->Option (Fl×G)}(bT:α->D)(I:List α->G->Prop)(step:∀a l g,I (a::l) g->∃g1 g2,T.set (bT a) g=some g1/\b g1=some (.nx,g2)/\I l g2):∀l g,I l g->∃g',I [] g'/\fQ T b (l.map bT) g=some (.nx,g')
 | [],g,h=>⟨g,h,rfl⟩
 |a::l,g,h=>by
  obtain⟨g1,g2,q1,q2,q3⟩:=step a l g h;obtain⟨g',w1,w2⟩:=ez bT I step l g2 q3;exact⟨g',w1,by rw[List.map_cons];unfold fQ;rw[q1];dsimp only;rw[q2];exact w2⟩
end
theorem ints_map(l:List Int):bA (l.map .int)=some l:=by
 induction l with
 |nil=>rfl
 |cons a l ih=>simp[bA,ih]
theorem Ik(l:List Bool):qX (l.map .bl)=some l:=by
 induction l with
 |nil=>rfl
 |cons a l ih=>simp[qX,ih]
theorem sQ(l:List (List Int))(h:∀x∈l,x≠[]):dF (l.map λx=>.tup (x.map .int))=some l:=by
 induction l with
 |nil=>rfl
 |cons a l ih=>
  have ha:=h a dC;cases a with
  |nil=>exact absurd rfl ha
  |cons x a=>
   have:=ints_map (x::a);simp only[List.map_cons]at this ⊢
   simp only[dF,this,ih λy hy=>h y (b0 _ hy)]
theorem yH(a:List Int)(l:List (List Int)):bA ((a::l).map λ(x:List Int)=>.tup (x.map .int))=none:=rfl
theorem Dq(l:List D):mG .len [.tup l]=some (.dat (.int l.length)):=rfl
theorem Dr(l:List D):mG .len [.lst l]=some (.dat (.int l.length)):=rfl
theorem lZ(l:List D):mG .len [.fix l]=some (.dat (.int l.length)):=rfl
theorem yI(l:List D):mG .list [.tup l]=some (.new l):=rfl
theorem yJ(l:List D):mG .list [.lst l]=some (.new l):=rfl
theorem ve(l:List D):mG .tuple [.lst l]=some (.dat (.tup l)):=rfl
theorem vf(l:List D):mG .tuple [.tup l]=some (.dat (.tup l)):=rfl
theorem Il(i j:Int):mG .max [.int i,.int j]=some (.dat (.int (if j > i then j else i))):=rfl
theorem Im(i j:Int):mG .min [.int i,.int j]=some (.dat (.int (if j<i then j else i))):=rfl
theorem Oz(l:List Bool):mG .all [.lst (l.map .bl)]=some (.dat (.bl (l.all id))):=by simp only[mG,Qg,Ik]
theorem sS(l:List Int)(h:l.length<64):mG .sorted [.lst (l.map .int)]=some (.new ((dD l).map .int)):=by simp only[mG,Qg,eL,ints_map,h,A9]
theorem mh(l:List (List Int))(hn:∀x∈l,x≠[])(h:l.length<64):mG .sorted [.lst (l.map λx=>.tup (x.map .int))]=some (.new ((bh cE l).map λx=>.tup (x.map .int))):=by
 cases l with
 |nil=>rfl
 |cons a l=>have e:=sQ (a::l) hn;simp only[mG,Qg,eL,yH,e,h,A9]
theorem cP:∀a b:List Int,bZ (a.map .int) (b.map .int)=decide (a=b)
 | [],[]=>rfl
 | [],_::_=>rfl
 |_::_,[]=>rfl
 |x::a,y::b=>by
  simp only[List.map_cons,bZ,bO,cP a b,List.cons.injEq,Bool.decide_and];rfl
theorem gj(a:List Int):iI (a.map .int)=true:=by
 induction a with
 |nil=>rfl
 |cons x a ih=>simp[iI,jc,ih]
theorem jC(a:List Int):deps (a.map .int)=0:=by
 induction a with
 |nil=>rfl
 |cons x a ih=>simp[deps,dep,ih]
theorem oA(a b:List Int):fP (.tup (a.map .int)) (.tup (b.map .int))=true:=by simp[fP,jc,gj,dep,jC]
theorem mj(a b:List Int):fP (.lst (a.map .int)) (.lst (b.map .int))=true:=by simp[fP,jc,gj,dep,jC]
theorem OD(a b:List Int):dQ .Eq (.tup (a.map .int)) (.tup (b.map .int))=some (decide (a=b)):=by simp only[dQ,oA,A9,bO,cP]
theorem OJ(a b:List Int):dQ .NotEq (.tup (a.map .int)) (.tup (b.map .int))=some (!decide (a=b)):=by simp only[dQ,oA,A9,bO,cP]
theorem O1(a b:List Int):dQ .Eq (.lst (a.map .int)) (.lst (b.map .int))=some (decide (a=b)):=by simp only[dQ,mj,A9,bO,cP]
theorem Ds(a b:List Int):dQ .NotEq (.lst (a.map .int)) (.lst (b.map .int))=some (!decide (a=b)):=by simp only[dQ,mj,A9,bO,cP]
theorem O2(a b:Int):dQ .Eq (.int a) (.int b)=some (decide (a=b)):=rfl
theorem O4(a b:Int):dQ .NotEq (.int a) (.int b)=some (!decide (a=b)):=rfl
theorem O5(a b:Int):dQ .Lt (.int a) (.int b)=some (decide (a<b)):=rfl
theorem O6(a b:Int):dQ .LtE (.int a) (.int b)=some (decide (a<=b)):=rfl
theorem O7(a b:Int):dQ .Gt (.int a) (.int b)=some (decide (a > b)):=rfl
theorem O8(a b:Int):dQ .GtE (.int a) (.int b)=some (decide (a ≥ b)):=rfl
theorem Io(a b:Int):uT .Add (.int a) (.int b)=some (.dat (.int (a+b))):=rfl
theorem Ip(a b:Int):uT .Sub (.int a) (.int b)=some (.dat (.int (a - b))):=rfl
theorem Xk(l:List D)(i:Int):Nq (.tup l) (.int i)=L2.dM l i:=rfl
theorem Xl(l:List D)(i:Int):Nq (.lst l) (.int i)=L2.dM l i:=rfl
theorem Xm(l:List D)(i:Int):Nq (.fix l) (.int i)=L2.dM l i:=rfl
theorem gk{α:Type}(l:List α)(i:Nat)(h:i<l.length):L2.dM l (i:Int)=some l[i]:=by unfold L2.dM L2.vB;rw[fN ⋯,fN ⋯];simp[h]
theorem sU(l:List Int)(i:Nat)(h:i<l.length):L2.dM (l.map D.int) (i:Int)=some (.int l[i]):=by
 rw[gk _ _ (by simpa using h)]
 simp
theorem is_tup(l:List D):cW (j5 (.tup l)) "tuple"=true:=rfl
theorem O9(i:Int):cW (j5 (.int i)) "int"=true:=rfl
theorem Dt(i:Int):cW (j5 (.int i)) "bool"=false:=rfl
theorem Du(m:Nat):cD 0 m=((List.range m).map λ(k:Nat)=>(k:Int)).map .int:=by simp[cD]
theorem ak(m:Nat)(h:m<=1000):m<=lim:=l5 h ⋯
theorem aU(i:Int)(h:0<=i/\i<=1000):Hu i=true:=by unfold Hu;simp only[eJ,i5];lia
section
theorem aH{fx:Fx}{d:D}(h:fx.np=1):aO rn fx k [.dat d] g1=(cu rn k fx [d]).map λr=>(r,g1):=jB (ds:=[d]) h.symm
theorem eT{fx:Fx}{d e:D}(h:fx.np=2):aO rn fx k [.dat d,.dat e] g1=(cu rn k fx [d,e]).map λr=>(r,g1):=jB (ds:=[d,e]) h.symm
theorem eU{fx:Fx}{d e f:D}(h:fx.np=3):aO rn fx k [.dat d,.dat e,.dat f] g1=(cu rn k fx [d,e,f]).map λr=>(r,g1):=jB (ds:=[d,e,f]) h.symm
end
structure ql(fns:List Fx)(rn:Nat->Rn):Prop where
 e:∀(n:Nat) (bor:List Nat) (k:Nat) (x:Ex) (g:G),(rn (n+1)).e bor k x g=aV (rn n) bor k fns x g
 t:∀(n:Nat) (bor:List Nat) (k:Nat) (x:Ex) (g:G),(rn (n+1)).t bor k x g=stepT (rn n) bor k x g
 b:∀(n:Nat) (bor:List Nat) (k:Nat) (x:List Sm) (g:G),(rn (n+1)).b bor k x g=cX (rn n) bor k x g
 x:∀(n:Nat) (bor:List Nat) (k:Nat) (x:Ex) (g:G),(rn (n+1)).x bor k x g=Cp (rn n) bor k fns x g
 xt:∀(n:Nat) (bor:List Nat) (k:Nat) (x:Ex) (g:G),(rn (n+1)).xt bor k x g=uV (rn n) bor k x g
 xb:∀(n:Nat) (bor:List Nat) (k:Nat) (x:List Sm) (g:G),(rn (n+1)).xb bor k x g=uW (rn n) bor k x g
theorem Iq(fns:List Fx):ql fns (run fns):=⟨λ_ _ _ _ _=>rfl,λ_ _ _ _ _=>rfl,λ_ _ _ _ _=>rfl,λ_ _ _ _ _=>rfl,λ_ _ _ _ _=>rfl,λ_ _ _ _ _=>rfl⟩
abbrev evZ:=And.intro @is_tup (And.intro @O9 (And.intro @Dt (And.intro @Dq (And.intro @Dr (And.intro @yI (And.intro @yJ (And.intro @ve (And.intro @vf (And.intro @Il (And.intro @Im (And.intro @Oz (And.intro @OD (And.intro @OJ (And.intro @O1 (And.intro @Ds (And.intro @O2 (And.intro @O4 (And.intro @O5 (And.intro @O6 (And.intro @O7 (And.intro @O8 (And.intro @Io (And.intro @Ip (And.intro @Xk (And.intro @Xl @Xm)))))))))))))))))))))))))
abbrev Xn{fns rn}(U:ql fns rn):=And.intro U.e (And.intro U.t (And.intro U.b (And.intro U.x (And.intro U.xt U.xb))))
end Ev
local macro_rules | `(tactic|simp! [$u:term,$ls,*])=>`(tactic|simp[-List.map_map,-List.map_cons,-List.map_nil,Ev.Xn $u,Ev.evZ,Ev.Cp,Ev.uV,Ev.Nr,Ev.uW,Ev.xArgs,Ev.cX,Ev.aE,Ev.aV,Ev.stepT,Ev.argsR,Ev.iV,Ev.fz,Ev.toD,Ev.norm,Ev.pk,Ev.qU,Ev.dm,Ev.gX,Ev.Qj,Ev.Ci,Ev.Sw,Ev.sy,Ev.Cj,Ev.yV,Ev.GF,$ls,*])
local macro_rules | `(~~~$x)=>`(Ev.D.tup (List.map Ev.D.int $x))
namespace Ev
noncomputable def bq:Fx:=⟨2,4,[(.ite (.ix (.slot 0) (.val (.int 1))) [(.set 2 (.bin .Mod (.ix (.slot 0) (.val (.int 0))) (.slot 1))),(.item 0 (.val (.int 0)) (.bin .FloorDiv (.ix (.slot 0) (.val (.int 0))) (.slot 1))),(.ret (.slot 2))] []),(.item 0 (.val (.int 0)) (.bin .Mod (.bin .Add (.bin .Mult (.ix (.slot 0) (.val (.int 0))) (.val (.int 48271))) (.val (.int 29))) (.val (.int 2147483647)))),(.set 3 (.bin .Mod (.bin .Add (.bin .Add (.bin .Mult (.ix (.slot 0) (.val (.int 0))) (.ix (.slot 0) (.val (.int 0)))) (.bin .Mult (.val (.int 39373)) (.ix (.slot 0) (.val (.int 0))))) (.val (.int 7))) (.val (.int 2147483629)))),(.set 3 (.bin .Mod (.bin .Add (.bin .Mult (.slot 3) (.slot 3)) (.bin .Mult (.val (.int 16807)) (.slot 3))) (.val (.int 2147483587)))),(.ret (.bin .Mod (.bin .FloorDiv (.slot 3) (.val (.int 8))) (.slot 1)))]⟩
noncomputable def jY(ti:Nat):Fx:=⟨2,4,[(.set 2 (.blt .list [(.slot 1)])),(.set 3 (.lst [])),(.while (.cmp .NotEq (.slot 2) (.lst [])) [(.expr (.append 3 (.fO 2 (.call ti [(.slot 0),(.blt .len [(.slot 2)])]))))]),(.ret (.slot 3))]⟩
def jO:Fx:=⟨2,2,[(.ite (.cmp .Lt (.slot 1) (.blt .len [(.slot 0)])) [(.ret (.ix (.slot 0) (.slot 1)))] []),(.ret (.val (.int 0)))]⟩
noncomputable def jD(ci:Nat):Fx:=⟨2,3,[(.set 2 (.call ci [(.slot 0),(.slot 1)])),(.ite (.cmp .GtE (.slot 2) (.bin .Pow (.val (.int 10)) (.val (.int 18)))) [(.ret (.lst [(.bin .Sub (.slot 2) (.bin .Pow (.val (.int 10)) (.val (.int 18)))),(.val (.bl true))]))] []),(.ret (.lst [(.bin .Mod (.slot 2) (.val (.int 2147483647))),(.val (.bl false))]))]⟩
noncomputable def gt(t:List Int)(i:Int):Int:=t.getD i.toNat 0
theorem qm{t:List Int}{i:Int}(h:0<=i/\i<t.length):L2.dM (t.map D.int) i=some (.int (gt t i)):=by
 obtain⟨n,rfl⟩:∃n:Nat,i=n:=⟨i.toNat,by lia⟩
 rw[sU t n ⋯];simp[gt,(by lia:n<t.length)]
noncomputable def nums(m:Nat):List Int:=(List.range m).map λ(k:Nat)=>(k:Int)
theorem Dw(m:Nat):(nums m).length=m:=by simp[nums]
theorem aB{rn:Rn}{bor:List Nat}{k:Nat}{st:Sm}{rest:List Sm}{g g1:G}(h:aE rn bor k st g=some (.nx,g1)):cX rn bor k (st::rest) g=cX rn bor k rest g1:=by
 conv=>lhs;unfold cX
 rw[h]
noncomputable abbrev St(s:Int)(fl:Bool):Slot:=.own [.int s,.bl fl]
theorem ku(a b:Int)(h:0<b):uT .Mod (.int a) (.int b)=some (.dat (.int (a % b))):=by simp[uT,iU,h]
theorem qo(a b:Int)(h:0<b/\b<1073741824):uT .FloorDiv (.int a) (.int b)=some (.dat (.int (a / b))):=by simp[uT,iU,h]
theorem iX(a b:Int)(h:(-(2 ^ 64)<a/\a<2 ^ 64)\/(-(2 ^ 64)<b/\b<2 ^ 64)):uT .Mult (.int a) (.int b)=some (.dat (.int (a * b))):=by
 have:Hr a b=true:=by unfold Hr;simp only[x5,eJ,i5];exact h
 simp[uT,Hs,this]
section
variable{ti mi:Nat}(U:ql fns rn)(hT:fns[ti]?=some bq)
include U
theorem Pa(s:Int)(fl:Bool)(m:Int)(hm:0<m/\m<1000):∃r s' s2 s3,0<=r/\r<m/\(rn (n+20)).b [0] k bq.body [St s fl,.dat (.int m),.no,.no]=some (.rt (.dat (.int r)),[St s' fl,.dat (.int m),s2,s3]):=by
 have i0:L2.dM [D.int s,D.bl fl] 0=some (.int s):=rfl;have i1:L2.dM [D.int s,D.bl fl] 1=some (.bl fl):=rfl;have x0':L2.vB 2 0=some 0:=rfl;cases fl with
 |true=>refine⟨s % m,s / m,.dat (.int (s % m)),.no,C1 _ ⋯,AW _ hm.1,?_⟩;unfold bq;simp! [U,i0,i1,x0',ku _ _ hm.1,qo _ _ (show 0<m/\m<1073741824 by lia)]
 |false=>
  generalize hs1:(s * 48271+29) % 2147483647=s1;have h1:0<=s1/\s1<2147483647:=by rw[<- hs1];exact⟨C1 _ ⋯,AW _ ⋯⟩
  have j0:L2.dM [D.int s1,D.bl false] 0=some (.int s1):=rfl;generalize hs2:(s1 * s1+39373 * s1+7) % 2147483629=s2;have h2:0<=s2/\s2<2147483629:=by rw[<- hs2];exact⟨C1 _ ⋯,AW _ ⋯⟩
  generalize hs3:(s2 * s2+16807 * s2) % 2147483587=s3;refine⟨s3 / 8 % m,s1,.no,.dat (.int s3),C1 _ ⋯,AW _ hm.1,?_⟩;unfold bq;simp! [U,i0,i1,x0',ku,iX s 48271 (.inr ⋯),hs1,j0,iX s1 s1 (.inl ⋯),iX 39373 s1 (.inl ⋯),hs2,iX s2 s2 (.inl ⋯),iX 16807 s2 (.inl ⋯),hs3,qo _ _ (show (0:Int)<8/\(8:Int)<1073741824 by decide),hm.1]
theorem bS{i:Nat}{s:Int}{fl:Bool}{m:Int}(hi:g[i]?=some (St s fl))(hm:0<m/\m<1000):∃r s',0<=r/\r<m/\aO (rn (n+20)) bq k [.var i,.dat (.int m)] g=some (.dat (.int r),g.set i (St s' fl)):=by
 obtain⟨r,s',s2,s3,h1,h2,h⟩:=Pa U (n:=n) (k:=k) s fl m hm;refine⟨r,s',h1,h2,?_⟩;have hp:dm bq.n [St s fl,.dat (.int m)]=[St s fl,.dat (.int m),.no,.no]:=rfl;unfold aO;simp only[vars,bX,hi,List.map_cons,List.map_nil];rw[fN ⟨rfl,by simp⟩,hp,h]
 rfl
omit U in
theorem Dy(a:List Int):dQ .NotEq (.lst (a.map .int)) (.lst [])=some (!decide (a=[])):=Ds a []
omit U in
theorem Pb{l i:Nat}(h:i<l):L2.vB l (i:Int)=some i:=by unfold L2.vB;rw[fN ⋯,fN ⋯];simp
omit U in
theorem oB:∀(l:List Int) (j:Nat),(l.map D.int).eraseIdx j=(l.eraseIdx j).map .int
 | [],_=>rfl
 |_::_,0=>rfl
 |a::l,j+1=>by simp[oB l j]
omit U in
theorem sV:∀(l:List Int) (j:Nat) (h:j<l.length),([l[j]]++l.eraseIdx j).Perm l
 |a::l,0,_=>xI _
 |a::l,j+1,h=>(List.Perm.swap a _ _).trans ((sV l j (by simpa using h)).cons a)
include hT in
theorem Ph{i:Nat}{s:Int}{fl:Bool}(th:List Int)(hi:g[i]?=some (St s fl))(hl:th.length<=10):∃(row:List Int) (s':Int),row.Perm th/\aO (rn (n+50)) (jY ti) (k+1) [.var i,.dat (.lst (th.map .int))] g=some (.new (row.map .int),g.set i (St s' fl)):=by
 have loop:=wD (c:=(rn (n+49)).t [0] (k+1) (.cmp .NotEq (.slot 2) (.lst []))) (b:=(rn (n+49)).b [0] (k+1) [(.expr (.append 3 (.fO 2 (.call ti [(.slot 0),(.blt .len [(.slot 2)])]))))])
  (I:=λm g=>∃(s:Int) (left dg:List Int),left.length=m/\(dg++left).Perm th/\g=[St s fl,.dat (.lst (th.map .int)),.own (left.map .int),.own (dg.map .int)])
  (step:=λm g h=>by
   obtain⟨s,left,dg,h1,h2,rfl⟩:=h;have aF:=h2.length_eq;rw[eQ]at aF;obtain⟨r,s',q1,q2,q3⟩:=bS U (n:=n+25) (k:=k) (g:=[St s fl,.dat (.lst (th.map .int)),.own (left.map .int),.own (dg.map .int)]) (i:=0) (s:=s) (fl:=fl) (m:=(left.length:Int)) rfl ⋯;obtain⟨j,rfl⟩:∃j:Nat,r=j:=⟨r.toNat,by lia⟩
   have hj:j<left.length:=by lia
   have e1:(left.map D.int)[j]?=some (.int left[j]):=by simp[hj]
   have e2:(left.map D.int).eraseIdx j=(left.eraseIdx j).map .int:=oB left j;have z1:left.length<lim:=fR (wE _) (ak (left.length+1) ⋯);have z2:dg.length<lim:=fR (wE _) (ak (dg.length+1) ⋯);have gG:left≠[]:=λe=>by rw[e]at hj;exact absurd hj (l7 _)
   refine⟨[St s fl,.dat (.lst (th.map .int)),.own (left.map .int),.own (dg.map .int)],[St s' fl,.dat (.lst (th.map .int)),.own ((left.eraseIdx j).map .int),.own ((dg++[left[j]]).map .int)],by simp! [U,Dy,gG],?_,s',left.eraseIdx j,dg++[left[j]],?_,?_,rfl⟩
   . have Um:aO (rn (n+45)) bq k [.var 0,.dat (.int (left.length:Int))] [St s fl,.dat (.lst (th.map .int)),.own (left.map .int),.own (dg.map .int)]=some (.dat (.int j),[St s' fl,.dat (.lst (th.map .int)),.own (left.map .int),.own (dg.map .int)]):=q3;simp! [U,hT,Um,Pb hj,e1,e2,z1,z2];simp
   . rw[List.length_eraseIdx_of_lt hj];lia
   .
    refine List.Perm.trans ?_ h2;rw[AH];refine List.Perm.append_left _ ?_;exact sV left j hj)
  (fin:=λg h=>by
   obtain⟨s,left,dg,h1,h2,rfl⟩:=h;have:left=[]:=List.eq_nil_of_length_eq_zero h1;simp! [U,Dy,this])
 obtain⟨g',⟨s',left,dg,q1,q2,rfl⟩,q3⟩:=loop th.length 100000 [St s fl,.dat (.lst (th.map .int)),.own (th.map .int),.own []] ⋯ ⟨s,th,[],rfl,by simp,rfl⟩
 have Xo:left=[]:=List.eq_nil_of_length_eq_zero q1;subst Xo;rw[tP]at q2;refine⟨dg,s',q2,?_⟩;have hp:dm (jY ti).n [St s fl,.dat (.lst (th.map .int))]=[St s fl,.dat (.lst (th.map .int)),.no,.no]:=rfl;have body:(rn (n+50)).b [0] (k+1) (jY ti).body [St s fl,.dat (.lst (th.map .int)),.no,.no]=some (.rt (.var 3),[St s' fl,.dat (.lst (th.map .int)),.own [],.own (dg.map .int)]):=by unfold jY;simp! [U,q3]
 unfold aO;simp only[vars,bX,hi,List.map_cons,List.map_nil];rw[fN ⟨rfl,by simp⟩,hp,body]
 rfl
end
section
variable{ci:Nat}(U:ql fns rn)(hC:fns[ci]?=some jO)
include U hC
omit U hC in
theorem oR:uT .Pow (.int 10) (.int 18)=some (.dat (.int (10 ^ 18))):=by rfl
theorem Dz(ns:List Int)(hl:ns.length<=1000)(j:Nat):∃(s:Int) (fl:Bool),cu (rn (n+40)) (k+1) (jD ci) [.fix (ns.map .int),.int j]=some (.new [.int s,.bl fl]):=by
 obtain⟨v,q⟩:∃v:Int,∀n,cu (rn (n+20)) k jO [.fix (ns.map .int),.int j]=some (.dat (.int v)):=by
  by_cases h:j<ns.length
  .
   refine⟨ns[j],λn=>?_⟩
   have h':(j:Int)<ns.length:=by lia
   have:=sU ns j h;unfold cu jO;simp! [U,lZ,h',this]
  .
   refine⟨0,λn=>?_⟩
   have h' : ¬ (j:Int)<ns.length:=by lia
   unfold cu jO;simp! [U,lZ,h']
 by_cases hv:(1000000000000000000:Int)<=v
 . refine⟨v - 1000000000000000000,true,?_⟩;unfold cu jD;simp! [U,hC,eT (fx:=jO) rfl,q,oR,hv,ak 2 ⋯]
 . refine⟨v % 2147483647,false,?_⟩;unfold cu jD;simp! [U,hC,eT (fx:=jO) rfl,q,oR,hv,ak 2 ⋯,ku]
end
noncomputable def aQ:Fx:=⟨1,1,[(.ret (.and [(.jV (.slot 0) "int"),(.not (.jV (.slot 0) "bool"))]))]⟩
noncomputable def bG(w:Nat):Fx:=⟨3,3,[(.ret (.and [(.call w [(.slot 0)]),(.chain (.slot 1) [.LtE,.LtE] [(.slot 0),(.slot 2)])]))]⟩
def isInt:D->Bool
 |.int _=>true
 |_=>false
noncomputable def jZ(lo hi:Int):D->Bool
 |.int i=>decide (lo<=i/\i<=hi)
 |_=>false
section
variable{w wi mw it ci cj:Nat}(U:ql fns rn)
include U
theorem eE(d:D):cu (rn (n+6)) k aQ [d]=some (.dat (.bl (isInt d))):=by unfold cu aQ;cases d <;> simp! [U,cW,j5,isInt]
variable(hW:fns[w]?=some aQ)
include hW
theorem cy(d:D)(lo hi:Int):cu (rn (n+14)) (k+1) (bG w) [d,.int lo,.int hi]=some (.dat (.bl (jZ lo hi d))):=by
 unfold cu bG;cases d with
 |int i=>
  by_cases h1:lo<=i
  .
   by_cases h2:i<=hi
   . simp! [U,hW,aH (fx:=aQ) rfl,eE U,isInt,jZ,h1,h2]
   . simp! [U,hW,aH (fx:=aQ) rfl,eE U,isInt,jZ,h1,h2]
  . simp! [U,hW,aH (fx:=aQ) rfl,eE U,isInt,jZ,h1]
 |_=>simp! [U,hW,aH (fx:=aQ) rfl,eE U,isInt,jZ]
end
def eV(wi:Nat):Fx:=⟨2,2,[(.ite (.or [(.not (.jV (.slot 1) "tuple")),(.cmp .NotEq (.blt .len [(.slot 1)]) (.val (.int 2)))]) [(.ret (.val (.bl false)))] []),(.ret (.and [(.blt .all [(.comp 2 2 (.nm 3) (.slot 1) none (.call wi [(.slot 3),(.val (.int 0)),(.bin .Sub (.slot 0) (.val (.int 1)))]))]),(.cmp .Lt (.ix (.slot 1) (.val (.int 0))) (.ix (.slot 1) (.val (.int 1))))]))]⟩
def qp:Fx:=⟨1,1,[(.ret (.blt .all [(.comp 1 2 (.nm 2) (.fy (.val (.int 1)) (.blt .len [(.slot 0)])) none (.cmp .Lt (.ix (.slot 0) (.bin .Sub (.slot 2) (.val (.int 1)))) (.ix (.slot 0) (.slot 2))))]))]⟩
def bC(wi it ri:Nat):Fx:=⟨1,3,[(.ite (.or [(.not (.jV (.slot 0) "tuple")),(.cmp .NotEq (.blt .len [(.slot 0)]) (.val (.int 2)))]) [(.ret (.val (.bl false)))] []),(.tgt (.tp [1,2]) (.slot 0)),(.ite (.or [(.not (.call wi [(.slot 1),(.val (.int 1)),(.val (.int 6))])),(.not (.jV (.slot 2) "tuple"))]) [(.ret (.val (.bl false)))] []),(.ret (.and [(.blt .all [(.comp 3 2 (.nm 4) (.slot 2) none (.call it [(.slot 1),(.slot 4)]))]),(.call ri [(.slot 2)])]))]⟩
noncomputable def W(m:Nat)(aA:List (List Int)):D:=.tup [.int m,.tup (aA.map λx=>~~~x)]
structure Wb(m:Nat)(aA:List (List Int)):Prop where
 tie:∀x∈aA,∃a b:Int,x=[a,b]/\0<=a/\a<b/\b<m
 uG:aA.Pairwise λx y=>HT.lexLt x y=true
 len:aA.length<=15
theorem oE(l:List (List Int)):iI (l.map λx=>~~~x)=true:=by
 induction l with
 |nil=>rfl
 |cons x l ih=>simp[iI,jc,gj,ih]
theorem oF(l:List (List Int)):deps (l.map λx=>~~~x)<=1:=by
 induction l with
 |nil=>simp[deps]
 |cons x l ih=>simp[deps,dep,jC];lia
theorem oG:∀a b:List (List Int),bZ (a.map λx=>~~~x) (b.map λx=>~~~x)=decide (a=b)
 | [],[]=>rfl
 | [],_::_=>rfl
 |_::_,[]=>rfl
 |x::a,y::b=>by
  simp only[List.map_cons,bZ,bO,cP,oG a b,List.cons.injEq,Bool.decide_and]
section
variable{wh wi it ri iw ci:Nat}(U:ql fns rn)
include U
variable(hW:fns[wh]?=some aQ)(hI:fns[wi]?=some (bG wh))
include hW hI
theorem DG(m:Nat)(a b:Int)(h:0<=a/\a<b/\b<m):cu (rn (n+40)) (k+3) (eV wi) [.int m,~~~[a,b]]=some (.dat (.bl true)):=by
 have w:=λn k=>lY (rn:=rn (n+24)) (bor:=[]) (k:=k+2) (g:=[.dat (.int m),.dat (~~~[a,b])]) (g1:=[.dat (.int m),.dat (~~~[a,b])]) (kk:=2) (nn:=2) (j:=3) (it:=.slot 1) (e:=.call wi [(.slot 3),(.val (.int 0)),(.bin .Sub (.slot 0) (.val (.int 1)))]) [a,b] .int (λ_=>.bl true) (by simp! [U,eY]) rfl ⋯ ⋯ ⋯ (ak _ ⋯) λx hx G' hG=>by
  have h0:G'[0]?=some (.dat (.int m)):=hG.1 0 ⋯;have hx':(0:Int)<=x/\x<=m - 1:=by simp only[dS,i8,wS]at hx;lia
  simp! [U,hG.2,h0,hI,eU (fx:=bG wh) rfl,cy U hW,jZ,hx']
 have e1:[a,b].map (λ_=>D.bl true)=([true,true]).map .bl:=rfl
 have i0:L2.dM ([a,b].map D.int) 0=some (.int a):=rfl;have i1:L2.dM ([a,b].map D.int) 1=some (.int b):=rfl;unfold cu eV;simp! [U,w,e1,i0,i1,h]
omit hW hI in
theorem Pj(m:Nat)(aA:List (List Int))(h:Wb m aA):cu (rn (n+40)) k qp [.tup (aA.map λx=>~~~x)]=some (.dat (.bl true)):=by
 have hl:=h.len;have w:=λn k=>lY (rn:=rn (n+16)) (bor:=[]) (k:=k) (g:=[.dat (.tup (aA.map λx=>~~~x))]) (g1:=[.dat (.tup (aA.map λx=>~~~x))]) (kk:=2) (nn:=1) (j:=2) (it:=.fy (.val (.int 1)) (.blt .len [(.slot 0)])) (e:=.cmp .Lt (.ix (.slot 0) (.bin .Sub (.slot 2) (.val (.int 1)))) (.ix (.slot 0) (.slot 2))) (List.range (aA.length - 1)) (λ(k:Nat)=>.int (1+k:Int)) (λ_=>.bl true) (by
   have e:((aA.length:Int) - 1).toNat=aA.length - 1:=by lia
   simp! [U,eY,aU 1 ⋯,aU (aA.length:Int) ⋯,e,cD]) rfl ⋯ ⋯ ⋯ (ak _ (by simp;lia)) λj hj G' hG=>by
  have h0:G'[0]?=some (.dat (.tup (aA.map λx=>~~~x))):=hG.1 0 ⋯
  have hj':=pV.mp hj;have j1:L2.dM (aA.map λx=>~~~x) (1+(j:Int) - 1)=some (~~~(aA[j]'⋯)):=by rw[show (1+(j:Int) - 1)=((j:Nat):Int)by lia,gk _ _ (by simp;lia)];simp
  have j2:L2.dM (aA.map λx=>~~~x) (1+(j:Int))=some (~~~(aA[j+1]'⋯)):=by rw[show (1+(j:Int))=((j+1:Nat):Int)by lia,gk _ _ (by simp;lia)];simp
  have iZ:HT.lexLt (aA[j]'⋯) (aA[j+1]'⋯)=true:=A7.mp h.uG j (j+1) ⋯ ⋯ ⋯;have hc:dQ .Lt (~~~(aA[j]'⋯)) (~~~(aA[j+1]'⋯))=some true:=by simp only[dQ,U3,ints_map,iZ]
  simp! [U,hG.2,h0,j1,j2,hc]
 have e1:(List.range (aA.length - 1)).map (λ_=>D.bl true)=((List.range (aA.length - 1)).map λ_=>true).map .bl:=by rw[List.map_map];rfl
 have e2:((List.range (aA.length - 1)).map λ_=>true).all id=true:=by simp
 unfold cu qp;simp! [U,w,e1,e2]
variable(JQ:fns[it]?=some (eV wi))(hR:fns[ri]?=some qp)
include JQ hR
theorem DK(m:Nat)(aA:List (List Int))(hm:1<=m/\m<=6)(h:Wb m aA):cu (rn (n+60)) (k+5) (bC wi it ri) [W m aA]=some (.dat (.bl true)):=by
 have hl:=h.len;have w:=λn k=>lY (rn:=rn (n+50)) (bor:=[]) (k:=k+4) (g:=[.dat (W m aA),.dat (.int m),.dat (.tup (aA.map λx=>~~~x))]) (g1:=[.dat (W m aA),.dat (.int m),.dat (.tup (aA.map λx=>~~~x))]) (kk:=2) (nn:=3) (j:=4) (it:=.slot 2) (e:=.call it [(.slot 1),(.slot 4)]) aA (λx=>~~~x) (λ_=>.bl true) (by simp! [U,eY]) rfl ⋯ ⋯ ⋯ (ak _ ⋯) λx hx G' hG=>by
  have h1:G'[1]?=some (.dat (.int m)):=hG.1 1 ⋯;obtain⟨a,b,rfl,hab⟩:=h.tie x hx;simp! [U,hG.2,h1,JQ,eT (fx:=eV wi) rfl,DG U hW hI m a b hab]
 have e1:aA.map (λ_=>D.bl true)=(aA.map λ_=>true).map .bl:=by rw[List.map_map];rfl
 have e2:(aA.map λ_=>true).all id=true:=by simp
 have q:=λn k=>Pj U (n:=n) (k:=k) m aA h
 have ty:cW (j5 (W m aA)) "tuple"=true:=rfl;have bl:mG .len [W m aA]=some (.dat (.int 2)):=rfl;have st:∀s1 s2,Tg.set (.tp [1,2]) (W m aA) [.dat (W m aA),s1,s2]=some [.dat (W m aA),.dat (.int m),.dat (.tup (aA.map λx=>~~~x))]:=λ_ _=>rfl
 unfold cu bC;simp! [U,ty,bl,Tg.ix,st,hI,eU (fx:=bG wh) rfl,cy U hW,jZ,(show (1:Int)<=m/\(m:Int)<=6 by lia),w,e1,e2,hR,aH (fx:=qp) rfl,q]
variable(hIW:fns[iw]?=some (bC wi it ri))
include hIW
end
def tm(t:List Int)(x:List Int):List Int:=if gt t (gt x 0)<gt t (gt x 1)then [gt t (gt x 0),gt t (gt x 1)]else [gt t (gt x 1),gt t (gt x 0)]
def Pr(m:Nat)(x:List Int):Prop:=∃a b:Int,x=[a,b]/\0<=a/\a<b/\b<m
theorem gP{l:List (List Int)}(h:l.Nodup):(bh cE l).Pairwise λx y=>HT.lexLt x y=true:=by
 have h1:=cK (O:=cE) l;have h2:(bh cE l).Nodup:=(cg l).nodup_iff.mpr h;rw[List.nodup_iff_pairwise_ne]at h2;refine (h1.and h2).imp λ{x y} ⟨q1,q2⟩=>?_
 cases e:HT.lexLt x y with
 |true=>rfl
 |false=>exact absurd (jq x y e q1) q2
noncomputable def cY:Fx:=⟨1,3,[(.set 1 (.lst [])),(.loop (.nm 2) (.dP (.slot 0)) [(.expr (.extend 1 (.comp 3 2 (.nm 4) (.fy (.bin .Add (.slot 2) (.val (.int 1))) (.slot 0)) none (.tup [(.slot 2),(.slot 4)]))))]),(.ret (.slot 1))]⟩
def Ir(ti:Nat):Option Ex:=some (.cmp .Lt (.call ti [(.slot 0),(.val (.int 8))]) (.ix (.lst [(.val (.int 2)),(.val (.int 4)),(.val (.int 6))]) (.bin .Mod (.slot 3) (.val (.int 3)))))
def bL:List Sm:=[(.expr (.append 4 (.blt .tuple [(.blt .sorted [(.lst [(.ix (.slot 5) (.slot 6)),(.ix (.slot 5) (.ix (.lst [(.bin .Sub (.slot 6) (.val (.int 1))),(.bin .Sub (.slot 6) (.val (.int 1))),(.val (.int 0)),(.bin .FloorDiv (.slot 6) (.val (.int 2)))]) (.bin .Sub (.slot 3) (.val (.int 3)))))])])])))]
def DN:Sm:=.ite (.and [(.cmp .Eq (.slot 3) (.val (.int 4))),(.cmp .Gt (.slot 2) (.val (.int 2)))]) [(.expr (.append 4 (.blt .tuple [(.blt .sorted [(.lst [(.ix (.slot 5) (.val (.int 0))),(.ix (.slot 5) (.bin .Sub (.slot 2) (.val (.int 1))))])])])))] []
noncomputable def Iu(ti:Nat):Option Ex:=some (.cmp .Eq (.call ti [(.slot 0),(.val (.int 12))]) (.val (.int 0)))
noncomputable def Iv:Option Ex:=some (.cmp .NotEq (.cmp .In (.slot 9) (.slot 4)) (.cmp .In (.slot 9) (.slot 7)))
noncomputable def Pn(ti:Nat):Sm:=.set 2 (.blt .max [(.val (.int 1)),(.bin .Sub (.slot 1) (.ix (.lst [(.val (.int 0)),(.val (.int 4)),(.val (.int 1)),(.val (.int 0)),(.val (.int 2)),(.val (.int 1)),(.val (.int 3)),(.slot 1)]) (.call ti [(.slot 0),(.val (.int 8))])))])
def Iw(ti pi:Nat):Sm:=.ite (.cmp .Gt (.slot 3) (.val (.int 2))) [(.set 4 (.lst [])),(.loop (.nm 6) (.fy (.val (.int 1)) (.slot 2)) bL),DN,(.set 7 (.comp 8 2 (.nm 9) (.call pi [(.slot 2)]) (Iu ti) (.slot 9))),(.set 4 (.comp 8 2 (.nm 9) (.call pi [(.slot 2)]) Iv (.slot 9)))] []
def vg(ti pi mi:Nat):Fx:=⟨2,8,[(Pn ti),(.set 3 (.call ti [(.slot 0),(.val (.int 7))])),(.set 4 (.comp 8 2 (.nm 9) (.call pi [(.slot 2)]) (Ir ti) (.slot 9))),(.set 5 (.call mi [(.slot 0),(.fM (.slot 2))])),(Iw ti pi),(.ret (.tup [(.slot 2),(.blt .tuple [(.blt .sorted [(.slot 4)])])]))]⟩
noncomputable def qq(m a:Nat):List (List Int):=(List.range (m - (a+1))).map λ(j:Nat)=>[(a:Int),(a:Int)+1+(j:Int)]
def pacc(m j:Nat):List (List Int):=((List.range j).map (qq m)).flatten
theorem oH(m j:Nat):pacc m (j+1)=pacc m j++qq m j:=by simp[pacc,List.range_succ]
theorem sW(m:Nat):∀j,(pacc m j).length<=j * m
 | 0=>by simp[pacc]
 |j+1=>by
  rw[oH,eQ,Nat.succ_mul];have:=sW m j;have h2:(qq m j).length<=m:=by simp[qq]
  lia
def prs(m:Nat):List (List Int):=pacc m m
def YF(m:Nat):Bool:=(prs m).all (λx=>match x with | [a,b]=>decide (0<=a)&&decide (a<b)&&decide (b<m) |_=>false)&&decide ((prs m).Nodup)&&decide ((prs m).length<=15)
theorem Iz{m:Nat}(hm:1<=m/\m<=6):YF m=true:=by
 obtain⟨h1,h2⟩:=hm
 match m,h1,h2 with
 | 1,_,_=>decide +kernel
 | 2,_,_=>decide +kernel
 | 3,_,_=>decide +kernel
 | 4,_,_=>decide +kernel
 | 5,_,_=>decide +kernel
 | 6,_,_=>decide +kernel
theorem mz{m:Nat}(hm:1<=m/\m<=6):(∀x∈prs m,Pr m x)/\(prs m).Nodup/\(prs m).length<=15:=by
 have:=Iz hm;unfold YF at this;simp only[eJ,i5,AO]at this;obtain⟨⟨h1,h2⟩,h3⟩:=this;refine⟨λx hx=>?_,h2,h3⟩
 have:=h1 x hx;split at this
 . rename_i a b;simp only[eJ,i5]at this;exact⟨a,b,rfl,this.1.1,this.1.2,this.2⟩
 . cases this
theorem Wb.Pp{m:Nat}(hm:1<=m/\m<=6){l:List (List Int)}(h:l.Sublist (prs m)):Wb m (bh cE l):=by
 obtain⟨h1,h2,h3⟩:=mz hm;have hp:=cg (O:=cE) l;refine⟨λx hx=>h1 x (h.subset (hp.mem_iff.mp hx)),gP (h.nodup h2),?_⟩
 rw[hp.length_eq];exact l5 h.length_le h3
section
variable{ti pi mi:Nat}(U:ql fns rn)(hT:fns[ti]?=some bq)(hP:fns[pi]?=some cY)(hM:fns[mi]?=some (jY ti))
include U
theorem mC(m:Nat)(hm:1<=m/\m<=6):cu (rn (n+30)) k cY [.int m]=some (.new ((prs m).map λx=>~~~x)):=by
 have loop:=ez (T:=.nm 2) (b:=(rn (n+29)).b [] k [(.expr (.extend 1 (.comp 3 2 (.nm 4) (.fy (.bin .Add (.slot 2) (.val (.int 1))) (.slot 0)) none (.tup [(.slot 2),(.slot 4)]))))]) (λ(j:Nat)=>D.int (j:Int))
  (I:=λl g=>∃(j:Nat) (s2:Slot),j<=m/\l=List.range' j (m - j)/\g=[.dat (.int m),.own ((pacc m j).map λx=>~~~x),s2])
  (step:=λa l g h=>by
   obtain⟨j,s2,h0,h1,rfl⟩:=h;have Vd:j<m:=by
    rcases y8 j m with h |h
    . exact h
    . rw[Nat.sub_eq_zero_of_le h]at h1;cases h1
   have hc:List.range' j (m - j)=j::List.range' (j+1) (m - (j+1)):=by rw[show m - j=(m - (j+1))+1 by lia,List.range'_succ]
   rw[hc]at h1;injection h1 with e1 e2;subst e1 e2;have aF:(pacc m a).length<=36:=l5 (sW m a) (l5 (Nat.mul_le_mul (show a<=6 by lia) hm.2) ⋯)
   have hlr:(qq m a).length<=6:=by simp[qq];lia
   have w:=lY (rn:=rn (n+26)) (bor:=[]) (k:=k) (g:=[.dat (.int m),.own ((pacc m a).map λx=>~~~x),.dat (.int a)]) (g1:=[.dat (.int m),.own ((pacc m a).map λx=>~~~x),.dat (.int a)]) (kk:=2) (nn:=3) (j:=4) (it:=.fy (.bin .Add (.slot 2) (.val (.int 1))) (.slot 0)) (e:=.tup [(.slot 2),(.slot 4)]) (List.range (m - (a+1))) (λ(j:Nat)=>.int ((a:Int)+1+(j:Int))) (λ(j:Nat)=>.tup [.int (a:Int),.int ((a:Int)+1+(j:Int))]) (by
     have e:((m:Int) - ((a:Int)+1)).toNat=m - (a+1):=by lia
     simp! [U,eY,aU ((a:Int)+1) ⋯,aU m ⋯,e,cD]) rfl ⋯ ⋯ ⋯ (ak _ (by simp;lia)) λx hx G' hG=>by
    have h2:G'[2]?=some (.dat (.int a)):=hG.1 2 ⋯;simp! [U,hG.2,h2,ak 2 ⋯]
   have e3:(List.range (m - (a+1))).map (λ(j:Nat)=>D.tup [.int (a:Int),.int ((a:Int)+1+(j:Int))])=(qq m a).map λx=>~~~x:=by unfold qq;rw[List.map_map];rfl
   rw[e3]at w;have z:(pacc m a).length+(qq m a).length<=lim:=ak _ ⋯;refine⟨[.dat (.int m),.own ((pacc m a).map λx=>~~~x),.dat (.int a)],[.dat (.int m),.own ((pacc m (a+1)).map λx=>~~~x),.dat (.int a)],rfl,?_,a+1,_,by lia,rfl,rfl⟩
   rw[oH,C0];simp! [U,w,z])
 obtain⟨g',⟨j,s2,h0,h1,rfl⟩,h2⟩:=loop (List.range' 0 m) [.dat (.int m),.own [],.no] ⟨0,.no,by lia,rfl,rfl⟩
 have hj:j=m:=by
  have:(List.range' j (m - j)).length=0:=by rw[<- h1];rfl
  rw[List.length_range']at this;lia
 subst hj;have hr:cD 0 j=(List.range' 0 j).map λ(x:Nat)=>D.int (x:Int):=by unfold cD;rw[Co];exact CU λx _=>by rw[Int.zero_add]
 unfold cu cY;simp! [U,Tg.ix,Tg.jx,eY,aU j ⋯,hr,h2];rfl
end
theorem Xp{rn:Rn}{bor:List Nat}{k:Nat}{α:Type}{kk nn j:Nat}{c:Option Ex}(bT:α->D)(gs:Int->G)(hn:∀s,(gs s).length=nn)(hj1:nn<=j)(hj2:j<nn+kk) :
  ∀(items:List α) (s:Int) (m:G) (acc:List D),m.length=kk->acc.length+items.length<=lim->
  (∀a∈items,∀s m acc,m.length=kk->m[j - nn]?=some (.dat (bT a))->∃b s',yW rn bor k c (gM (gs s) m acc)=some (b,gM (gs s') m acc))->
  (∀a∈items,∀s m acc,m.length=kk->m[j - nn]?=some (.dat (bT a))->fz rn bor k (.slot j) (gM (gs s) m acc)=some (bT a,gM (gs s) m acc))->
  ∃(sub:List α) (s':Int) (m':G),sub.Sublist items/\m'.length=kk/\yw rn bor k (.nm j) (nn+kk) c (.slot j) (items.map bT) (gM (gs s) m acc)=some (gM (gs s') m' (acc++sub.map bT))
 | [],s,m,acc,hm,_,_,_=>⟨[],s,m,List.Sublist.refl _,hm,by simp[yw]⟩
 |a::items,s,m,acc,hm,hl,hc,he=>by
  rw[i6]at hl;have Vd:j - nn<m.length:=by lia
  have q1:(Tg.nm j).set (bT a) (gM (gs s) m acc)=some (gM (gs s) (m.set (j - nn) (.dat (bT a))) acc):=by
   have:=Dp (g:=gs s) (kk:=kk) (j:=j) (d:=bT a) (m:=m) (acc:=acc) (by rw[hn];exact hj1) (by rw[hn];exact Vd)
   rw[hn]at this;exact this
  have hm':(m.set (j - nn) (.dat (bT a))).length=kk:=by simpa using hm
  have hg:(m.set (j - nn) (.dat (bT a)))[j - nn]?=some (.dat (bT a)):=by rw[i9 Vd]
  obtain⟨b,s',q2⟩:=hc a dC s _ acc hm' hg;rw[List.map_cons];unfold yw;rw[q1];dsimp only;rw[q2];cases b with
  |false=>
   dsimp only;obtain⟨sub,s2,m2,w1,w2,w3⟩:=Xp bT gs hn hj1 hj2 items s' _ acc hm' ⋯ (λx hx=>hc x (b0 _ hx)) (λx hx=>he x (b0 _ hx))
   exact⟨sub,s2,m2,w1.cons a,w2,w3⟩
  |true=>
   dsimp only;rw[he a dC s' _ acc hm' hg];dsimp only;have q4:(gM (gs s') (m.set (j - nn) (.dat (bT a))) acc)[nn+kk]?=some (.own acc):=by have:=gg (g:=gs s') (m:=m.set (j - nn) (.dat (bT a))) (acc:=acc);rw[hn,hm']at this;exact this
   rw[q4];dsimp only;rw[fN ⋯];have q5:(gM (gs s') (m.set (j - nn) (.dat (bT a))) acc).set (nn+kk) (.own (acc++[bT a]))=gM (gs s') (m.set (j - nn) (.dat (bT a))) (acc++[bT a]):=by have:=fV (g:=gs s') (m:=m.set (j - nn) (.dat (bT a))) (acc:=acc) (acc':=acc++[bT a]);rw[hn,hm']at this;exact this
   rw[q5];obtain⟨sub,s2,m2,w1,w2,w3⟩:=Xp bT gs hn hj1 hj2 items s' _ (acc++[bT a]) hm' (by rw[eQ,oQ];lia) (λx hx=>hc x (b0 _ hx)) (λx hx=>he x (b0 _ hx))
   refine⟨a::sub,s2,m2,w1.cons_cons a,w2,?_⟩;rw[w3];simp
theorem JT{rn:Rn}{bor:List Nat}{k:Nat}{α:Type}{kk nn j:Nat}{it:Ex}{c:Option Ex}{s:Int}{g:G}(items:List α)(bT:α->D)(gs:Int->G)(hn:∀s,(gs s).length=nn)(hj1:nn<=j)(hj2:j<nn+kk)(hw:eY rn bor k false it g=some (items.map bT,gs s))(hb:j∉bor)(hl:items.length<=lim)
  (hc:∀a∈items,∀s m acc,m.length=kk->m[j - nn]?=some (.dat (bT a))->∃b s',yW rn bor k c (gM (gs s) m acc)=some (b,gM (gs s') m acc))
  (he:∀a∈items,∀s m acc,m.length=kk->m[j - nn]?=some (.dat (bT a))->fz rn bor k (.slot j) (gM (gs s) m acc)=some (bT a,gM (gs s) m acc)) :
  ∃(sub:List α) (s':Int),sub.Sublist items/\cJ rn bor k nn kk (.nm j) it c (.slot j) g=some (sub.map bT,gs s'):=by
 obtain⟨sub,s',m',w1,w2,w3⟩:=Xp (rn:=rn) (bor:=bor) (k:=k) (c:=c) bT gs hn hj1 hj2 items s (List.replicate kk .no) [] ⋯ (by simpa using hl) hc he
 refine⟨sub,s',w1,?_⟩;unfold cJ;rw[show (Tg.nm j).jx=false from rfl,hw]
 dsimp only;rw[fN ⟨hn s,by simp[Tg.ix,hb]⟩,Dn,w3]
 dsimp only;have:(gM (gs s') m' ([]++sub.map bT))[nn+kk]?=some (.own ([]++sub.map bT)):=by have:=gg (g:=gs s') (m:=m') (acc:=[]++sub.map bT);rw[hn,w2]at this;exact this
 rw[this];dsimp only;have ht:=qj (g:=gs s') (m:=m') (acc:=[]++sub.map bT);rw[hn]at ht;rw[ht,AX]
section
variable{ti pi mi:Nat}(U:ql fns rn)(hT:fns[ti]?=some bq)(hP:fns[pi]?=some cY)(hM:fns[mi]?=some (jY ti))
include U
theorem YG{f:G}{m:G}{acc:List D}{d:D}{j nn:Nat}(hf:f.length=nn)(hj:nn<=j)(hm:m[j - nn]?=some (.dat d)):fz (rn (n+1)) bor k (.slot j) (gM f m acc)=some (d,gM f m acc):=by
 have iZ:=(dE.mp hm).1;have:(gM f m acc)[j]?=some (.dat d):=by
  have:=eN (g:=f) (m:=m) (acc:=acc) (i:=j - nn) iZ;rw[hf,show nn+(j - nn)=j by lia]at this
  rw[this,hm]
 simp! [U,this]
def fr(s:Int)(fl:Bool)(a2 a3 a4 a5 a6 a7:Slot):G:=[St s fl,.dat (.int 6),a2,a3,a4,a5,a6,a7]
include hT in
theorem w1(s:Int)(fl:Bool):∃(m:Nat) (s':Int),(1<=m/\m<=6)/\aE (rn (n+40)) [0] (k+3) (Pn ti) (fr s fl .no .no .no .no .no .no)=some (.nx,fr s' fl (.dat (.int m)) .no .no .no .no .no):=by
 obtain⟨r,s',r1,r2,q⟩:=bS U (n:=n+16) (k:=k+2) (g:=fr s fl .no .no .no .no .no .no) (i:=0) (s:=s) (fl:=fl) (m:=8) rfl ⋯;have q':aO (rn (n+36)) bq (k+2) [.var 0,.dat (.int 8)] [St s fl,.dat (.int 6),.no,.no,.no,.no,.no,.no]=some (.dat (.int r),[St s' fl,.dat (.int 6),.no,.no,.no,.no,.no,.no]):=q;obtain⟨v,hv,h0⟩:∃v:Int,(0<=v/\v<=6)/\L2.dM [D.int 0,.int 4,.int 1,.int 0,.int 2,.int 1,.int 3,.int 6] r=some (.int v):=by
  have:r=0\/r=1\/r=2\/r=3\/r=4\/r=5\/r=6\/r=7:=by lia
  rcases this with rfl |rfl |rfl |rfl |rfl |rfl |rfl |rfl <;> exact⟨_,by decide,rfl⟩
 refine⟨(if 6 - v > 1 then 6 - v else 1).toNat,s',?_,?_⟩
 . split <;> lia
 .
  have e:(((if 6 - v > 1 then 6 - v else 1).toNat:Nat):Int)=if 6 - v > 1 then 6 - v else 1:=by split <;> lia
  rw[e];unfold fr Pn;simp! [U,hT,q',h0,ak 8 ⋯]
include hT in
theorem w2(s:Int)(fl:Bool)(a2:Slot):∃(w:Int) (s':Int),(0<=w/\w<7)/\aE (rn (n+40)) [0] (k+3) (.set 3 (.call ti [(.slot 0),(.val (.int 7))])) (fr s fl a2 .no .no .no .no .no)=some (.nx,fr s' fl a2 (.dat (.int w)) .no .no .no .no):=by obtain⟨r,s',r1,r2,q⟩:=bS U (n:=n+19) (k:=k+2) (g:=fr s fl a2 .no .no .no .no .no) (i:=0) (s:=s) (fl:=fl) (m:=7) rfl ⋯;refine⟨r,s',⟨r1,r2⟩,?_⟩;have q':aO (rn (n+39)) bq (k+2) [.var 0,.dat (.int 7)] [St s fl,.dat (.int 6),a2,.no,.no,.no,.no,.no]=some (.dat (.int r),[St s' fl,.dat (.int 6),a2,.no,.no,.no,.no,.no]):=q;unfold fr;simp! [U,hT,q']
include hT hP in
theorem w3(s:Int)(fl:Bool)(m:Nat)(hm:1<=m/\m<=6)(w:Int)(hw:0<=w/\w<7):∃(sub:List (List Int)) (s':Int),sub.Sublist (prs m)/\aE (rn (n+60)) [0] (k+3) (.set 4 (.comp 8 2 (.nm 9) (.call pi [(.slot 2)]) (Ir ti) (.slot 9))) (fr s fl (.dat (.int m)) (.dat (.int w)) .no .no .no .no)=some (.nx,fr s' fl (.dat (.int m)) (.dat (.int w)) (.own (sub.map λx=>~~~x)) .no .no .no):=by
 have Tt:=λn k=>mC U (n:=n) (k:=k) m hm
 obtain⟨_,_,aF⟩:=mz hm;obtain⟨v,hv⟩:∃v:Int,L2.dM [D.int 2,.int 4,.int 6] (w % 3)=some (.int v):=by
  have:w % 3=0\/w % 3=1\/w % 3=2:=by lia
  rcases this with e |e |e <;> rw[e] <;> exact⟨_,rfl⟩
 obtain⟨sub,s',h1,h2⟩:=JT (rn:=rn (n+59)) (bor:=[0]) (k:=k+3) (kk:=2) (nn:=8) (j:=9) (it:=.call pi [(.slot 2)]) (c:=Ir ti) (s:=s) (g:=fr s fl (.dat (.int m)) (.dat (.int w)) .no .no .no .no) (prs m) (λx=>~~~x) (λs=>fr s fl (.dat (.int m)) (.dat (.int w)) .no .no .no .no) (λ_=>rfl) ⋯ ⋯ (by unfold fr;simp! [U,eY,hP,aH (fx:=cY) rfl,Tt]) ⋯ (ak _ ⋯) (λa _ s mm acc h1 h2=>by
   obtain⟨r,s',r1,r2,q⟩:=bS U (n:=n+37) (k:=k+2) (g:=gM (fr s fl (.dat (.int m)) (.dat (.int w)) .no .no .no .no) mm acc) (i:=0) (s:=s) (fl:=fl) (m:=8) rfl ⋯;have q':aO (rn (n+57)) bq (k+2) [.var 0,.dat (.int 8)] (gM (fr s fl (.dat (.int m)) (.dat (.int w)) .no .no .no .no) mm acc)=some (.dat (.int r),gM (fr s' fl (.dat (.int m)) (.dat (.int w)) .no .no .no .no) mm acc):=q;have g0:∀s,(gM (fr s fl (.dat (.int m)) (.dat (.int w)) .no .no .no .no) mm acc)[0]?=some (St s fl):=λ_=>rfl
   have g3:∀s,(gM (fr s fl (.dat (.int m)) (.dat (.int w)) .no .no .no .no) mm acc)[3]?=some (.dat (.int w)):=λ_=>rfl
   refine⟨decide (r<v),s',?_⟩;simp! [U,Ir,yW,hT,g0,g3,q',ku w 3 ⋯,hv,ak 3 ⋯]) (λa _ s mm acc h1 h2=>YG U (n:=n+58) (nn:=8) rfl ⋯ h2)
 refine⟨sub,s',h1,?_⟩;simp only[aE,U.e,aV,h2];simp[fr]
end
def Tv(l:List (List Int))(x:List Int):Bool:=(l.map λx=>~~~x).any λd=>bO d (~~~x)
theorem Pq(l:List (List Int))(x:List Int):dQ .In (~~~x) (.lst (l.map λx=>~~~x))=some (Tv l x):=by
 have h:Ht (~~~x) (l.map λx=>~~~x)=true:=by have:=oF l;simp only[Ht,jc,gj,oE,eJ,i5,true_and];lia
 simp only[dQ,eL,h,A9];rfl
theorem Pu(a b:Bool):dQ .NotEq (.bl a) (.bl b)=some (!(a==b)):=rfl
theorem wF(a b:Int):mG .sorted [.lst [.int a,.int b]]=some (.new ((dD [a,b]).map .int)):=sS [a,b] ⋯
section
variable{ti pi mi:Nat}(U:ql fns rn)(hT:fns[ti]?=some bq)(hP:fns[pi]?=some cY)(hM:fns[mi]?=some (jY ti))
include U
include hT hM in
theorem w4(s:Int)(fl:Bool)(m:Nat)(hm:1<=m/\m<=6)(a3 a4:Slot):∃(row:List Int) (s':Int),row.length=m/\aE (rn (n+60)) [0] (k+3) (.set 5 (.call mi [(.slot 0),(.fM (.slot 2))])) (fr s fl (.dat (.int m)) a3 a4 .no .no .no)=some (.nx,fr s' fl (.dat (.int m)) a3 a4 (.own (row.map .int)) .no .no):=by
 have hr:cD 0 m=(nums m).map .int:=Du m;have hl:=Dw m;obtain⟨row,s',yK,q⟩:=Ph U hT (n:=n+9) (k:=k+1) (g:=fr s fl (.dat (.int m)) a3 a4 .no .no .no) (i:=0) (s:=s) (fl:=fl) (nums m) rfl ⋯;have q':aO (rn (n+59)) (jY ti) (k+2) [.var 0,.dat (.lst ((nums m).map .int))] [St s fl,.dat (.int 6),.dat (.int m),a3,a4,.no,.no,.no]=some (.new (row.map .int),[St s' fl,.dat (.int 6),.dat (.int m),a3,a4,.no,.no,.no]):=q;refine⟨row,s',by rw[yK.length_eq,hl],?_⟩
 unfold fr;simp! [U,hM,q',aU m ⋯,ak m ⋯,hr]
theorem w5(s:Int)(fl:Bool)(m:Nat)(hm:1<=m/\m<=6)(w:Int)(hw:3<=w/\w<7)(row:List Int)(yK:row.length=m)(a6 a7:Slot):∃(aA:List (List Int)) (a6':Slot),aA.length<=m/\aE (rn (n+60)) [0] (k+3) (.loop (.nm 6) (.fy (.val (.int 1)) (.slot 2)) bL) (fr s fl (.dat (.int m)) (.dat (.int w)) (.own []) (.own (row.map .int)) a6 a7)=some (.nx,fr s fl (.dat (.int m)) (.dat (.int w)) (.own (aA.map λx=>~~~x)) (.own (row.map .int)) a6' a7):=by
 have loop:=ez (T:=.nm 6) (b:=(rn (n+60)).b [0] (k+3) bL) (λ(j:Nat)=>D.int (1+(j:Int)))
  (I:=λl g=>∃(j:Nat) (aA:List (List Int)) (s6:Slot),j<m/\l=List.range' j (m - 1 - j)/\aA.length<=j/\g=fr s fl (.dat (.int m)) (.dat (.int w)) (.own (aA.map λx=>~~~x)) (.own (row.map .int)) s6 a7)
  (step:=λa l g h=>by
   obtain⟨j,aA,s6,h0,h1,h2,rfl⟩:=h;have Vd:j<m - 1:=by
    rcases y8 j (m - 1)with h |h
    . exact h
    . rw[Nat.sub_eq_zero_of_le h]at h1;cases h1
   have hc:List.range' j (m - 1 - j)=j::List.range' (j+1) (m - 1 - (j+1)):=by rw[show m - 1 - j=(m - 1 - (j+1))+1 by lia,List.range'_succ]
   rw[hc]at h1;injection h1 with e1 e2;subst e1 e2;obtain⟨z,hz⟩:∃z:Int,z=1+(a:Int):=⟨_,rfl⟩;rw[<- hz];obtain⟨v,hv,h3⟩:∃v:Int,(0<=v/\v<m)/\L2.dM [D.int (z - 1),.int (z - 1),.int 0,.int (z / 2)] (w - 3)=some (.int v):=by
    have:w=3\/w=4\/w=5\/w=6:=by lia
    rcases this with rfl |rfl |rfl |rfl
    . exact⟨z - 1,by lia,rfl⟩
    . exact⟨z - 1,by lia,rfl⟩
    . exact⟨0,by lia,rfl⟩
    . exact⟨z / 2,by lia,rfl⟩
   have a1:L2.dM (row.map D.int) z=some (.int (gt row z)):=qm ⋯;have a2:L2.dM (row.map D.int) v=some (.int (gt row v)):=qm ⋯;have z2:aA.length<lim:=fR (wE _) (ak (aA.length+1) ⋯);refine⟨fr s fl (.dat (.int m)) (.dat (.int w)) (.own (aA.map λx=>~~~x)) (.own (row.map .int)) (.dat (.int z)) a7,fr s fl (.dat (.int m)) (.dat (.int w)) (.own ((aA++[dD [gt row z,gt row v]]).map λx=>~~~x)) (.own (row.map .int)) (.dat (.int z)) a7,rfl,?_,a+1,_,_,by lia,rfl,by rw[eQ,oQ];lia,rfl⟩
   rw[C0];unfold fr bL;simp! [U,a1,a2,h3,qo _ _ (show (0:Int)<2/\(2:Int)<1073741824 by decide),wF,z2,ak 4 ⋯,ak 2 ⋯]
   rfl)
 obtain⟨g',⟨j,aA,s6,h0,h1,h2,rfl⟩,h3⟩:=loop (List.range' 0 (m - 1)) (fr s fl (.dat (.int m)) (.dat (.int w)) (.own []) (.own (row.map .int)) a6 a7) ⟨0,[],a6,by lia,rfl,by simp,rfl⟩
 have hr:cD 1 (m - 1)=(List.range' 0 (m - 1)).map λ(x:Nat)=>D.int (1+(x:Int)):=by unfold cD;rw[Co]
 refine⟨aA,s6,by lia,?_⟩
 have e:((m:Int) - 1).toNat=m - 1:=by lia
 unfold fr at h3 ⊢
 simp! [U,Tg.ix,Tg.jx,eY,aU 1 ⋯,aU m ⋯,e,hr,h3]
theorem w6(s:Int)(fl:Bool)(m:Nat)(hm:1<=m/\m<=6)(w:Int)(row:List Int)(yK:row.length=m)(aA:List (List Int))(ht:aA.length<=m)(a6 a7:Slot):∃(Tw:List (List Int)),aE (rn (n+60)) [0] (k+3) DN (fr s fl (.dat (.int m)) (.dat (.int w)) (.own (aA.map λx=>~~~x)) (.own (row.map .int)) a6 a7)=some (.nx,fr s fl (.dat (.int m)) (.dat (.int w)) (.own (Tw.map λx=>~~~x)) (.own (row.map .int)) a6 a7):=by
 by_cases h4:w=4
 .
  by_cases h5:(m:Int) > 2
  . have a1:L2.dM (row.map D.int) 0=some (.int (gt row 0)):=qm ⋯;have a2:L2.dM (row.map D.int) ((m:Int) - 1)=some (.int (gt row ((m:Int) - 1))):=qm ⋯;have z2:aA.length<lim:=fR (wE _) (ak (aA.length+1) ⋯);have h6:(2:Int)<m:=h5;refine⟨aA++[dD [gt row 0,gt row ((m:Int) - 1)]],?_⟩;rw[C0];unfold fr DN;subst h4;simp! [U,a1,a2,h5,h6,wF,z2,ak 2 ⋯];rfl
  . have h6 : ¬ (2:Int)<m:=h5;refine⟨aA,?_⟩;unfold fr DN;subst h4;simp! [U,h5,h6]
 . refine⟨aA,?_⟩;unfold fr DN;simp! [U,h4]
include hT hP in
theorem w7(s:Int)(fl:Bool)(m:Nat)(hm:1<=m/\m<=6)(a3 a4 a5 a6:Slot):∃(sub:List (List Int)) (s':Int),aE (rn (n+60)) [0] (k+3) (.set 7 (.comp 8 2 (.nm 9) (.call pi [(.slot 2)]) (Iu ti) (.slot 9))) (fr s fl (.dat (.int m)) a3 a4 a5 a6 .no)=some (.nx,fr s' fl (.dat (.int m)) a3 a4 a5 a6 (.own (sub.map λx=>~~~x))):=by
 have Tt:=λn k=>mC U (n:=n) (k:=k) m hm
 obtain⟨_,_,aF⟩:=mz hm;obtain⟨sub,s',h1,h2⟩:=JT (rn:=rn (n+59)) (bor:=[0]) (k:=k+3) (kk:=2) (nn:=8) (j:=9) (it:=.call pi [(.slot 2)]) (c:=Iu ti) (s:=s) (g:=fr s fl (.dat (.int m)) a3 a4 a5 a6 .no) (prs m) (λx=>~~~x) (λs=>fr s fl (.dat (.int m)) a3 a4 a5 a6 .no) (λ_=>rfl) ⋯ ⋯ (by unfold fr;simp! [U,eY,hP,aH (fx:=cY) rfl,Tt]) ⋯ (ak _ ⋯) (λa _ s mm acc h1 h2=>by
   obtain⟨r,s',r1,r2,q⟩:=bS U (n:=n+37) (k:=k+2) (g:=gM (fr s fl (.dat (.int m)) a3 a4 a5 a6 .no) mm acc) (i:=0) (s:=s) (fl:=fl) (m:=12) rfl ⋯;have q':aO (rn (n+57)) bq (k+2) [.var 0,.dat (.int 12)] (gM (fr s fl (.dat (.int m)) a3 a4 a5 a6 .no) mm acc)=some (.dat (.int r),gM (fr s' fl (.dat (.int m)) a3 a4 a5 a6 .no) mm acc):=q;have g0:∀s,(gM (fr s fl (.dat (.int m)) a3 a4 a5 a6 .no) mm acc)[0]?=some (St s fl):=λ_=>rfl
   refine⟨decide (r=0),s',?_⟩;simp! [U,Iu,yW,hT,g0,q']) (λa _ s mm acc h1 h2=>YG U (n:=n+58) (nn:=8) rfl ⋯ h2)
 refine⟨sub,s',?_⟩;simp only[aE,U.e,aV,h2];simp[fr]
include hP in
theorem w8(s:Int)(fl:Bool)(m:Nat)(hm:1<=m/\m<=6)(aA odd:List (List Int))(a3 a5 a6:Slot):∃(sub:List (List Int)),sub.Sublist (prs m)/\aE (rn (n+60)) [0] (k+3) (.set 4 (.comp 8 2 (.nm 9) (.call pi [(.slot 2)]) Iv (.slot 9))) (fr s fl (.dat (.int m)) a3 (.own (aA.map λx=>~~~x)) a5 a6 (.own (odd.map λx=>~~~x)))=some (.nx,fr s fl (.dat (.int m)) a3 (.own (sub.map λx=>~~~x)) a5 a6 (.own (odd.map λx=>~~~x))):=by
 have Tt:=λn k=>mC U (n:=n) (k:=k) m hm
 obtain⟨_,_,aF⟩:=mz hm;have w:=JR (rn:=rn (n+59)) (bor:=[0]) (k:=k+3) (g:=fr s fl (.dat (.int m)) a3 (.own (aA.map λx=>~~~x)) a5 a6 (.own (odd.map λx=>~~~x))) (g1:=fr s fl (.dat (.int m)) a3 (.own (aA.map λx=>~~~x)) a5 a6 (.own (odd.map λx=>~~~x))) (kk:=2) (nn:=8) (j:=9) (it:=.call pi [(.slot 2)]) (c:=Iv) (e:=.slot 9) (prs m) (λx=>~~~x) (λx=>!(Tv aA x==Tv odd x)) (λx=>~~~x) (by unfold fr;simp! [U,eY,hP,aH (fx:=cY) rfl,Tt]) rfl (by simp[fr]) (by simp[fr]) ⋯ (ak _ ⋯)
  (λa _ G' hG=>by
   have h4:G'[4]?=some (.own (aA.map λx=>~~~x)):=hG.1 4 (by simp[fr])
   have h7:G'[7]?=some (.own (odd.map λx=>~~~x)):=hG.1 7 (by simp[fr])
   simp! [U,Iv,yW,hG.2,h4,h7,Pq,Pu])
  (λa _ _ G' hG=>by simp! [U,hG.2])
 refine⟨(prs m).filter λx=>!(Tv aA x==Tv odd x),List.filter_sublist,?_⟩
 simp only[aE,U.e,aV,w];simp[fr]
end
section
variable{ti pi mi:Nat}(U:ql fns rn)(hT:fns[ti]?=some bq)(hP:fns[pi]?=some cY)(hM:fns[mi]?=some (jY ti))
include U
include hT hP in
theorem w9(s:Int)(fl:Bool)(m:Nat)(hm:1<=m/\m<=6)(w:Int)(hw:0<=w/\w<7)(row:List Int)(yK:row.length=m)(qu:List (List Int))(hs:qu.Sublist (prs m)):∃(sub:List (List Int)) (s':Int) (a6 a7:Slot),sub.Sublist (prs m)/\aE (rn (n+62)) [0] (k+3) (Iw ti pi) (fr s fl (.dat (.int m)) (.dat (.int w)) (.own (qu.map λx=>~~~x)) (.own (row.map .int)) .no .no)=some (.nx,fr s' fl (.dat (.int m)) (.dat (.int w)) (.own (sub.map λx=>~~~x)) (.own (row.map .int)) a6 a7):=by
 by_cases YH:w > 2
 .
  obtain⟨t1,a6,h1,q1⟩:=w5 U (n:=n+1) (k:=k) s fl m hm w ⋯ row yK .no .no;obtain⟨t2,q2⟩:=w6 U (n:=n+1) (k:=k) s fl m hm w row yK t1 h1 a6 .no;obtain⟨odd,s',q3⟩:=w7 U hT hP (n:=n+1) (k:=k) s fl m hm (.dat (.int w)) (.own (t2.map λx=>~~~x)) (.own (row.map .int)) a6
  obtain⟨sub,h4,q4⟩:=w8 U hP (n:=n+1) (k:=k) s' fl m hm t2 odd (.dat (.int w)) (.own (row.map .int)) a6;refine⟨sub,s',a6,.own (odd.map λx=>~~~x),h4,?_⟩
  have ht:(rn (n+62)).t [0] (k+3) (.cmp .Gt (.slot 3) (.val (.int 2))) (fr s fl (.dat (.int m)) (.dat (.int w)) (.own (qu.map λx=>~~~x)) (.own (row.map .int)) .no .no)=some (true,fr s fl (.dat (.int m)) (.dat (.int w)) (.own (qu.map λx=>~~~x)) (.own (row.map .int)) .no .no):=by unfold fr;simp! [U,YH]
  have q0:aE (rn (n+61)) [0] (k+3) (.set 4 (.lst [])) (fr s fl (.dat (.int m)) (.dat (.int w)) (.own (qu.map λx=>~~~x)) (.own (row.map .int)) .no .no)=some (.nx,fr s fl (.dat (.int m)) (.dat (.int w)) (.own []) (.own (row.map .int)) .no .no):=by unfold fr;simp! [U,U.e]
  unfold Iw;rw[aE];rw[ht];dsimp only;rw[U.b];rw[aB q0,aB q1,aB q2,aB q3,aB q4];rfl
 . refine⟨qu,s,.no,.no,hs,?_⟩;unfold fr Iw;simp! [U,YH]
include hT hP hM in
theorem Pw{i:Nat}{s:Int}{fl:Bool}(hi:g[i]?=some (St s fl)):∃(m:Nat) (aA:List (List Int)) (s':Int),(1<=m/\m<=6)/\Wb m aA/\aO (rn (n+80)) (vg ti pi mi) (k+3) [.var i,.dat (.int 6)] g=some (.dat (W m aA),g.set i (St s' fl)):=by
 obtain⟨m,s1,hm,q1⟩:=w1 U hT (n:=n+39) (k:=k) s fl;obtain⟨w,s2,hw,q2⟩:=w2 U hT (n:=n+39) (k:=k) s1 fl (.dat (.int m));obtain⟨qu,s3,h3,q3⟩:=w3 U hT hP (n:=n+19) (k:=k) s2 fl m hm w hw;obtain⟨row,s4,h4,q4⟩:=w4 U hT hM (n:=n+19) (k:=k) s3 fl m hm (.dat (.int w)) (.own (qu.map λx=>~~~x))
 obtain⟨sub,s5,a6,a7,h5,q5⟩:=w9 U hT hP (n:=n+17) (k:=k) s4 fl m hm w hw row h4 qu h3;obtain⟨p1,p2,p3⟩:=mz hm;have hso:=mh sub (λx hx=>by obtain⟨a,b,rfl,_⟩:=p1 x (h5.subset hx);exact Cc _ _) (Nat.lt_of_le_of_lt (l5 h5.length_le p3) ⋯)
 refine⟨m,bh cE sub,s5,hm,Wb.Pp hm h5,?_⟩;have hp:dm (vg ti pi mi).n [St s fl,.dat (.int 6)]=fr s fl .no .no .no .no .no .no:=rfl;have body:(rn (n+80)).b [0] (k+3) (vg ti pi mi).body (fr s fl .no .no .no .no .no .no)=some (.rt (.dat (W m (bh cE sub))),fr s5 fl (.dat (.int m)) (.dat (.int w)) (.own (sub.map λx=>~~~x)) (.own (row.map .int)) a6 a7):=by unfold vg;rw[U.b,aB q1,aB q2,aB q3,aB q4,aB q5];unfold fr;simp! [U,hso,ak 2 ⋯];rfl
 unfold aO;simp only[vars,bX,hi,List.map_cons,List.map_nil];rw[fN ⟨rfl,by simp⟩,hp,body]
 rfl
end
noncomputable def cZ(i:Nat):Fx:=⟨2,2,[(.ite (.mV (.slot 1) ["tuple", "list"]) [(.ite (.or [(.cmp .NotEq (.jV (.slot 0) "tuple") (.jV (.slot 1) "tuple")),(.cmp .NotEq (.jV (.slot 0) "list") (.jV (.slot 1) "list"))]) [(.ret (.val (.bl false)))] []),(.ite (.cmp .NotEq (.blt .len [(.slot 0)]) (.blt .len [(.slot 1)])) [(.ret (.val (.bl false)))] []),(.ret (.blt .all [(.comp 2 3 (.tp [3,4]) (.zip (.slot 0) (.slot 1)) none (.call i [(.slot 3),(.slot 4)]))]))] []),(.ret (.and [(.cmp .Eq (.slot 0) (.slot 1)),(.cmp .Eq (.jV (.slot 0) "bool") (.jV (.slot 1) "bool"))]))]⟩
theorem qw{l:List D}{r:Int}(h:0<=r/\r<l.length):∃x∈l,L2.dM l r=some x:=by
 obtain⟨j,rfl⟩:∃j:Nat,r=j:=⟨r.toNat,by lia⟩
 have hj:j<l.length:=by lia
 exact⟨l[j],sK hj,gk l j hj⟩
theorem IK(l m:List D)(h:l.length+m.length<=1000):uT .Add (.tup l) (.tup m)=some (.dat (.tup (l++m))):=by
 show (if l.length+m.length<=lim then _ else _)=_
 rw[fN (ak _ h)]
theorem gn(l m:List D)(h:l.length+m.length<=1000):uT .Add (.lst l) (.lst m)=some (.new (l++m)):=by
 show (if l.length+m.length<=lim then _ else _)=_
 rw[fN (ak _ h)]
noncomputable def Sd:Nat->D->Prop
 |_,.int _=>True
 |_,.bl _=>True
 |_,.str _=>True
 |_,.non=>True
 |c+1,.tup l=>l.length<=1000/\∀x∈l,Sd c x
 |c+1,.lst l=>l.length<=1000/\∀x∈l,Sd c x
 |_,_=>False
theorem sX:∀l:List D,pR l l=l.map λa=>D.tup [a,a]
 | []=>rfl
 |a::l=>by
  show D.tup [a,a]::pR l l=_;rw[sX l];rfl
theorem all_true{α:Type}(l:List α):(l.map λ_=>true).all id=true:=by simp
section
variable(U:ql fns rn)
include U
theorem sY{c:Nat}(hS:fns[i]?=some (cZ i))(ih:∀n k d,Sd c d->cu (rn (n+20 * c+20)) (k+c) (cZ i) [d,d]=some (.dat (.bl true))){d:D}{l:List D}(hw:∀n k,eY (rn (n+2)) [] k true (.zip (.slot 0) (.slot 1)) [.dat d,.dat d]=some (pR l l,[.dat d,.dat d]))(hl:l.length<=1000)(h:∀x∈l,Sd c x):∀n k,cJ (rn (n+20 * c+23)) [] (k+c+1) 2 3 (.tp [3,4]) (.zip (.slot 0) (.slot 1)) none (.call i [(.slot 3),(.slot 4)]) [.dat d,.dat d]=some ((l.map λ_=>true).map .bl,[.dat d,.dat d]):=λn k=>by
 rw[List.map_map];exact Ox (rn:=rn (n+20 * c+23)) (bor:=[]) (k:=k+c+1) (g:=[.dat d,.dat d]) (g1:=[.dat d,.dat d]) (kk:=3) (nn:=2) (j1:=3) (j2:=4) l id id _ (by rw[hw (n+20 * c+21)];rw[sX];rfl) rfl ⋯ ⋯ ⋯ ⋯ ⋯ ⋯ ⋯ (ak _ hl) λa ha G' hG=>by
  have h1:=hG.2.1;have h2:=hG.2.2;simp only[id]at h1 h2;have q:=ih (n+2) k a (h a ha);rw[show n+2+20 * c+20=n+20 * c+22 by lia]at q
  simp! [U,h1,h2,hS,eT (fx:=cZ i) rfl,q]
theorem eF(d:D)(h:Sd 0 d):cu (rn (n+20)) k (cZ i) [d,d]=some (.dat (.bl true)):=by
 cases d with
 |int j=>unfold cu cZ;simp! [U,j5,cW,dQ,fP,bO,jc,dep]
 |bl j=>unfold cu cZ;simp! [U,j5,cW,dQ,fP,bO,jc,dep]
 |str j=>unfold cu cZ;simp! [U,j5,cW,dQ,fP,bO,jc,dep]
 |non=>unfold cu cZ;simp! [U,j5,cW,dQ,fP,bO,jc,dep]
 |_=>exact h.elim
theorem wG(hS:fns[i]?=some (cZ i)):∀(c n k:Nat) (d:D),Sd c d->cu (rn (n+20 * c+20)) (k+c) (cZ i) [d,d]=some (.dat (.bl true))
 | 0,n,k,d,h=>eF U d h
 |c+1,n,k,d,h=>by
  have ih:=wG hS c;rw[show n+20 * (c+1)+20=n+20 * c+40 by lia,show k+(c+1)=k+c+1 by lia]
  cases d with
  |int j=>exact eF U _ trivial
  |bl j=>exact eF U _ trivial
  |str j=>exact eF U _ trivial
  |non=>exact eF U _ trivial
  |tup l=>
   have w:=sY U hS ih (d:=.tup l) (l:=l) (λn k=>by simp! [U,eY,eL,isTup]) h.1 h.2
   have w':=w (n+13) k;rw[show n+13+20 * c+23=n+20 * c+36 by lia]at w'
   unfold cu cZ;simp! [U,j5,cW,dQ,fP,bO,jc,dep,w',all_true]
  |lst l=>
   have w:=sY U hS ih (d:=.lst l) (l:=l) (λn k=>by simp! [U,eY,eL,isTup]) h.1 h.2
   have w':=w (n+13) k;rw[show n+13+20 * c+23=n+20 * c+36 by lia]at w'
   unfold cu cZ;simp! [U,j5,cW,dQ,fP,bO,jc,dep,w',all_true]
  |_=>exact h.elim
end
noncomputable def bH(ti:Nat):Fx:=⟨1,2,[(.set 1 (.lst [(.val .non),(.val (.int 0)),(.tup []),(.tup [(.val (.int 7)),(.tup [])]),(.tup [(.val (.int 0)),(.tup [])]),(.tup [(.neg (.val (.int 1))),(.tup [])]),(.tup [(.val (.bl true)),(.tup [])]),(.tup [(.val (.int 2)),(.lst [])]),(.lst [(.val (.int 2)),(.tup [])]),(.tup [(.val (.int 2)),(.tup [(.tup [(.val (.int 1)),(.val (.int 0))])])]),(.tup [(.val (.int 2)),(.tup [(.tup [(.val (.int 0)),(.val (.int 0))])])]),.emp])),(.set 1 (.bin .Add (.slot 1) (.lst [(.tup [(.val (.int 2)),(.tup [(.tup [(.val (.int 0)),(.val (.int 1))]),(.tup [(.val (.int 0)),(.val (.int 1))])])]),(.tup [(.val (.int 3)),(.tup [(.tup [(.val (.int 0)),(.val (.int 2))]),(.tup [(.val (.int 0)),(.val (.int 1))])])]),(.tup [(.val (.int 2)),(.tup [(.tup [(.val (.int 0)),(.val (.int 2))])])]),(.tup [(.val (.int 2)),(.tup [(.tup [(.val (.int 0)),(.val (.bl true))])])]),(.tup [(.val (.int 2)),(.tup [(.tup [(.val (.int 0)),(.val (.int 1)),(.val (.int 1))])])])]))),(.set 1 (.bin .Add (.slot 1) (.lst [(.tup [(.val (.int 2)),(.tup [(.val (.int 0)),(.val (.int 1))])]),(.tup [(.val (.int 2)),(.val .non)]),(.tup [(.val (.int 2)),(.tup []),(.tup [])]),(.tup [(.val (.int 2))]),(.tup [(.val (.int 2)),(.tup [(.lst [(.val (.int 0)),(.val (.int 1))])])]),(.tup [(.val (.int 2)),(.tup [(.val .non)])]),(.tup [(.val (.str (PySem.Str.ofString "2"))),(.tup [])]),(.val (.str (PySem.Str.ofString "2:")))]))),(.ret (.ix (.slot 1) (.call ti [(.slot 0),(.val (.int 25))])))]⟩
noncomputable def sZ:List D:=[.non,.int 0,.tup [],.tup [.int 7,.tup []],.tup [.int 0,.tup []],.tup [.int (-1),.tup []],.tup [.bl true,.tup []],.tup [.int 2,.lst []],.lst [.int 2,.tup []],.tup [.int 2,.tup [.tup [.int 1,.int 0]]],.tup [.int 2,.tup [.tup [.int 0,.int 0]]],.emp]
noncomputable def tB:List D:=[.tup [.int 2,.tup [.tup [.int 0,.int 1],.tup [.int 0,.int 1]]],.tup [.int 3,.tup [.tup [.int 0,.int 2],.tup [.int 0,.int 1]]],.tup [.int 2,.tup [.tup [.int 0,.int 2]]],.tup [.int 2,.tup [.tup [.int 0,.bl true]]],.tup [.int 2,.tup [.tup [.int 0,.int 1,.int 1]]]]
noncomputable def DP:List D:=[.tup [.int 2,.tup [.int 0,.int 1]],.tup [.int 2,.non],.tup [.int 2,.tup [],.tup []],.tup [.int 2],.tup [.int 2,.tup [.lst [.int 0,.int 1]]],.tup [.int 2,.tup [.non]],.tup [.str (PySem.Str.ofString "2"),.tup []],.str (PySem.Str.ofString "2:")]
def mD:List D:=sZ++tB++DP
section
variable{ti:Nat}(U:ql fns rn)
include U
variable(hT:fns[ti]?=some bq)
include hT
theorem yL{i:Nat}{s:Int}{fl:Bool}(hi:g[i]?=some (St s fl)):∃(d:D) (s':Int),d∈mD/\aO (rn (n+60)) (bH ti) (k+1) [.var i] g=some (.dat d,g.set i (St s' fl)):=by
 have l0:=ak 0 ⋯;have l1:=ak 1 ⋯;have l2:=ak 2 ⋯;have l3:=ak 3 ⋯;have e1:aE (rn (n+59)) [0] (k+1) (match (bH ti).body with |s::_=>s | []=>.stuck) [St s fl,.no]=some (.nx,[St s fl,.own sZ]):=by unfold bH;simp! [U,l0,l1,l2,l3,ak 12 ⋯];rfl
 have e2:aE (rn (n+59)) [0] (k+1) (match (bH ti).body with |_::s::_=>s |_=>.stuck) [St s fl,.own sZ]=some (.nx,[St s fl,.own (sZ++tB)]):=by have o:=gn sZ tB ⋯;have hb:tB=[.tup [.int 2,.tup [.tup [.int 0,.int 1],.tup [.int 0,.int 1]]],.tup [.int 3,.tup [.tup [.int 0,.int 2],.tup [.int 0,.int 1]]],.tup [.int 2,.tup [.tup [.int 0,.int 2]]],.tup [.int 2,.tup [.tup [.int 0,.bl true]]],.tup [.int 2,.tup [.tup [.int 0,.int 1,.int 1]]]]:=rfl;unfold bH;simp! [U,l0,l1,l2,l3,ak tB.length ⋯,<- hb,o]
 have e3:aE (rn (n+59)) [0] (k+1) (match (bH ti).body with |_::_::s::_=>s |_=>.stuck) [St s fl,.own (sZ++tB)]=some (.nx,[St s fl,.own mD]):=by have o:=gn (sZ++tB) DP ⋯;have hb:DP=[.tup [.int 2,.tup [.int 0,.int 1]],.tup [.int 2,.non],.tup [.int 2,.tup [],.tup []],.tup [.int 2],.tup [.int 2,.tup [.lst [.int 0,.int 1]]],.tup [.int 2,.tup [.non]],.tup [.str (PySem.Str.ofString "2"),.tup []],.str (PySem.Str.ofString "2:")]:=rfl;unfold bH mD;simp! [U,l0,l1,l2,l3,ak DP.length ⋯,<- hb,o]
 obtain⟨r,s1,r1,r2,q⟩:=bS U (n:=n+37) (k:=k) (g:=[St s fl,.own mD]) (i:=0) (s:=s) (fl:=fl) (m:=25) rfl ⋯;have q':aO (rn (n+57)) bq k [.var 0,.dat (.int 25)] [St s fl,.own mD]=some (.dat (.int r),[St s1 fl,.own mD]):=q;obtain⟨d,hd,ed⟩:=qw (l:=mD) (r:=r) ⟨r1,r2⟩;refine⟨d,s1,hd,?_⟩;have e4:aE (rn (n+59)) [0] (k+1) (.ret (.ix (.slot 1) (.call ti [(.slot 0),(.val (.int 25))]))) [St s fl,.own mD]=some (.rt (.dat d),[St s1 fl,.own mD]):=by simp! [U,hT,q',ed]
 have body:(rn (n+60)).b [0] (k+1) (bH ti).body [St s fl,.no]=some (.rt (.dat d),[St s1 fl,.own mD]):=by
  unfold bH at e1 e2 e3 ⊢
  rw[U.b,aB e1,aB e2,aB e3];unfold cX;rw[e4]
 have hp:dm (bH ti).n [St s fl]=[St s fl,.no]:=rfl;unfold aO;simp only[vars,bX,hi,List.map_cons,List.map_nil];rw[fN ⟨rfl,by simp⟩,hp,body]
 rfl
end
theorem iY{α:Type}(l:List α)(i j:Option Int):(fG l i j).length<=l.length:=by unfold fG;rw[rV,List.length_drop];lia
end Ev
namespace L1
open Ev
def tD:List Sm:=[(.ite (.or [(.not (.jV (.slot 1) "tuple")),(.cmp .NotEq (.blt .len [(.slot 1)]) (.val (.int 2))),(.not (.call 11 [(.ix (.slot 1) (.val (.int 0)))])),(.not (.call 11 [(.ix (.slot 1) (.val (.int 1)))]))]) [(.ret (.val (.bl false)))] []),(.ite (.not (.chain (.val (.int 0)) [.LtE,.Lt,.Lt] [(.ix (.slot 1) (.val (.int 0))),(.ix (.slot 1) (.val (.int 1))),(.ix (.slot 0) (.val (.int 0)))])) [(.ret (.val (.bl false)))] [])]
def yM:Fx:=⟨1,2,[(.ite (.or [(.not (.jV (.slot 0) "tuple")),(.cmp .NotEq (.blt .len [(.slot 0)]) (.val (.int 2))),(.not (.call 11 [(.ix (.slot 0) (.val (.int 0)))])),(.not (.chain (.val (.int 1)) [.LtE,.LtE] [(.ix (.slot 0) (.val (.int 0))),(.val (.int 6))]))]) [(.ret (.val (.bl false)))] []),(.ite (.not (.jV (.ix (.slot 0) (.val (.int 1))) "tuple")) [(.ret (.val (.bl false)))] []),(.loop (.nm 1) (.ix (.slot 0) (.val (.int 1))) tD),(.ret (.cmp .Eq (.blt .list [(.ix (.slot 0) (.val (.int 1)))]) (.sset (.ix (.slot 0) (.val (.int 1))))))]⟩
def b1:Sm:=.tgt (.tp [2,3]) (.slot 1)
def b2:Sm:=.set 4 (.call 7 [(.slot 0),(.bin .Add (.blt .len [(.slot 3)]) (.val (.int 1)))])
noncomputable def b3:Sm:=.par 5 6 (.call 7 [(.slot 0),(.bin .Add (.slot 2) (.val (.int 1)))]) (.call 7 [(.slot 0),(.bin .Add (.slot 2) (.val (.int 1)))])
def b4:Sm:=.set 7 (.lst [(.tup [(.slot 5),(.slot 6)]),(.tup [(.slot 6),(.slot 5)]),(.tup [(.slot 5),(.slot 5)]),(.tup [(.neg (.val (.int 1))),(.slot 5)]),(.tup [(.slot 5),(.val (.bl true))]),(.tup [(.slot 5)]),(.tup [(.slot 5),(.slot 6),(.slot 6)]),(.lst [(.slot 5),(.slot 6)]),(.val .non),(.val (.str (PySem.Str.ofString "01"))),(.slot 5),(.tup [(.slot 5),(.val .non)]),(.tup [(.tup [(.slot 5),(.slot 6)])])])
def b5:Sm:=.set 7 (.ix (.slot 7) (.call 7 [(.slot 0),(.val (.int 13))]))
def b6:Sm:=.set 8 (.lst [(.tup [(.slot 2),(.bin .Add (.slice (.slot 3) none (some (.slot 4))) (.slice (.slot 3) (some (.bin .Add (.slot 4) (.val (.int 1)))) none))]),(.tup [(.slot 2),(.bin .Add (.bin .Add (.slice (.slot 3) none (some (.slot 4))) (.tup [(.slot 7)])) (.slice (.slot 3) (some (.slot 4)) none))]),(.tup [(.bin .Sub (.slot 2) (.val (.int 1))),(.slot 3)])])
def b7:Sm:=.set 8 (.bin .Add (.slot 8) (.lst [(.tup [(.slot 2),(.bin .Add (.bin .Add (.slice (.slot 3) none (some (.slot 4))) (.tup [(.slot 7)])) (.slice (.slot 3) (some (.bin .Add (.slot 4) (.val (.int 1)))) none))]),(.tup [(.slot 2),(.bin .Add (.bin .Add (.slice (.slot 3) none (some (.slot 4))) (.slice (.slot 3) (some (.slot 4)) (some (.bin .Add (.slot 4) (.val (.int 1)))))) (.slice (.slot 3) (some (.slot 4)) none))])]))
def b8:Sm:=.set 8 (.bin .Add (.slot 8) (.lst [(.tup [(.slot 2),(.rev (.slot 3))]),(.tup [(.slot 2),(.blt .list [(.slot 3)])]),(.lst [(.slot 2),(.slot 3)]),(.tup [(.bin .Add (.slot 2) (.val (.int 1))),(.slot 3)]),(.tup [(.slot 2)]),(.tup [(.slot 3),(.slot 2)])]))
def b9:Sm:=.set 8 (.bin .Add (.slot 8) (.lst [(.tup [(.slot 2),(.slot 3),(.tup [])]),(.tup [(.val (.bl true)),(.slot 3)]),(.tup [(.blt .str [(.slot 2)]),(.slot 3)]),(.tup [(.val (.int 7)),(.slot 3)])]))
def Xq:Sm:=.ret (.ix (.slot 8) (.call 7 [(.slot 0),(.val (.int 15))]))
def Px:Fx:=⟨2,9,[b1,b2,b3,b4,b5,b6,b7,b8,b9,Xq]⟩
noncomputable def wH:List Sm:=[(.ite (.not (.call 14 [(.call 2 [(.slot 5)]),(.call 12 [(.slot 5)])])) [(.ret (.val (.bl false)))] [])]
def tE:List Sm:=[(.loop (.nm 4) (.dP (.val (.int 2))) wH)]
noncomputable def tF:List Sm:=[(.set 2 (.call 6 [(.slot 0),(.slot 1)])),(.set 3 (.call 10 [(.slot 2),(.val (.int 6))])),(.ite (.cmp .IsNot (.call 2 [(.slot 3)]) (.val (.bl true))) [(.ret (.val (.bl false)))] []),(.loop (.nm 5) (.bin .Add (.comp 6 2 (.nm 7) (.dP (.val (.int 6))) none (.call 15 [(.slot 2),(.slot 3)])) (.lst [(.call 13 [(.slot 2)])])) tE)]
def Qk:Fx:=⟨1,6,[(.loop (.nm 1) (.dP (.blt .max [(.val (.int 1)),(.blt .min [(.blt .len [(.slot 0)]),(.val (.int 10))])])) tF),(.ret (.and [(.cmp .Is (.call 2 [(.tup [(.val (.int 6)),(.tup [])])]) (.val (.bl true))),(.cmp .Is (.call 2 [(.tup [(.val (.int 1)),(.tup [])])]) (.val (.bl true)))]))]⟩
def fns:List Fx:=[aQ,bG 0,bC 1 3 4,eV 1,qp,jO,jD 5,bq,cY,jY 7,vg 7 8 9,aQ,yM,bH 7,cZ 14,Px,Qk]
theorem c0:fns[0]?=some (aQ):=rfl
theorem c1:fns[1]?=some (bG 0):=rfl
theorem c2:fns[2]?=some (bC 1 3 4):=rfl
theorem c3:fns[3]?=some (eV 1):=rfl
theorem c4:fns[4]?=some (qp):=rfl
theorem c5:fns[5]?=some (jO):=rfl
theorem c6:fns[6]?=some (jD 5):=rfl
theorem c7:fns[7]?=some (bq):=rfl
theorem c8:fns[8]?=some (cY):=rfl
theorem c9:fns[9]?=some (jY 7):=rfl
theorem c10:fns[10]?=some (vg 7 8 9):=rfl
theorem DQ:fns[11]?=some (aQ):=rfl
theorem c12:fns[12]?=some (yM):=rfl
theorem c13:fns[13]?=some (bH 7):=rfl
theorem YJ:fns[14]?=some (cZ 14):=rfl
theorem c15:fns[15]?=some (Px):=rfl
end L1
namespace L1
open Ev
noncomputable def bw(m:Int):D->Bool
 |.tup [.int a,.int b]=>decide (0<=a/\a<b/\b<m)
 |_=>false
def gF(xs:List (List Int)):Bool:=(List.range (xs.length - 1)).all λj=>HT.lexLt (xs.getD j []) (xs.getD (j+1) [])
noncomputable def oJ:List D->List (List Int)
 | []=>[]
 |.tup [.int a,.int b]::l=>[a,b]::oJ l
 |_::l=>oJ l
def bL:D->Bool
 |.tup [.int m,.tup l]=>decide (1<=m/\m<=6)&&(l.all (bw m)&&gF (oJ l))
 |_=>false
def Fw:D->Prop
 |.tup [_,.tup l]=>l.length<=50
 |_=>True
theorem mF{m:Int}:∀{l:List D},l.all (bw m)=true->l=(oJ l).map (λx=>~~~x)/\∀x∈oJ l,∃a b:Int,x=[a,b]/\0<=a/\a<b/\b<m
 | [],_=>⟨rfl,λ_ h=>nomatch h⟩
 |d::l,h=>by
  rw[CC,eJ]at h;obtain⟨h1,h2⟩:=h;obtain⟨q1,q2⟩:=mF h2;unfold bw at h1;split at h1
  .
   rename_i a b;refine⟨?_,λx hx=>?_⟩
   . show _ = ~~~[a,b]::(oJ l).map _;rw[<- q1];rfl
   .
    rcases dS.mp hx with rfl |hx
    . exact⟨a,b,rfl,nS h1⟩
    . exact q2 x hx
  . cases h1
theorem lex_trans{x y z:List Int}(h1:HT.lexLt x y=true)(h2:HT.lexLt y z=true):HT.lexLt x z=true:=lB x y z h1 h2
theorem DR:∀{xs:List (List Int)},gF xs=true ↔ xs.Pairwise λx y=>HT.lexLt x y=true
 | []=>by simp[gF]
 | [x]=>by simp[gF]
 |x::y::xs=>by
  have ih:=DR (xs:=y::xs);have e:gF (x::y::xs)=(HT.lexLt x y&&gF (y::xs)):=by
   unfold gF;rw[show (x::y::xs).length - 1=((y::xs).length - 1)+1 by simp,List.range_succ_eq_map,CC,List.all_map]
   rfl
  rw[e,eJ,ih,v6 (a:=x)];constructor
  .
   rintro⟨h1,h2⟩;refine⟨λz hz=>?_,h2⟩
   rcases dS.mp hz with rfl |hz
   . exact h1
   . exact lex_trans h1 (List.rel_of_pairwise_cons h2 hz)
  . rintro⟨h1,h2⟩;exact⟨h1 y dC,h2⟩
theorem iz:∀{l ks:List (List Int)},ks.Nodup->(bN ks l).Nodup
 | [],_,h=>h
 |x::l,ks,h=>by
  unfold bN;split
  . exact iz h
  .
   rename_i hn;refine iz (u7.mpr ⟨h,by simp,λa ha b hb=>?_⟩)
   rw[gN.mp hb];rintro rfl;exact hn ha
theorem wI:∀{l ks:List (List Int)},(ks++l).Nodup->bN ks l=ks++l
 | [],ks,_=>by simp[bN]
 |x::l,ks,h=>by
  have hn:x∉ks:=λhx=>by
   rw[u7]at h;exact h.2.2 x hx x dC rfl
  unfold bN;rw[fI hn,wI (by simpa using h)]
  simp
theorem DS(xs:List (List Int)):decide (xs=bh cE (bN [] xs))=gF xs:=by
 rw[Bool.eq_iff_iff,decide_eq_true_iff,DR];constructor
 . intro h;rw[h];exact gP (iz wT)
 .
  intro h;have nd:xs.Nodup:=by rw[List.nodup_iff_pairwise_ne];exact h.imp λ{x y} q e=>by rw[e,jo]at q;cases q
  rw[wI (ks:=[]) (by simpa using nd),AX]
  exact g7 (xI _) (h.imp λ{x y} q=>gw.le_of_lt (O:=cE) q)
section
variable{k n:Nat}{g g1:G}{rn:Nat->Rn}(U:ql fns rn)
include U
theorem IV(m:Int)(d:D):cu (rn (n+40)) (k+3) (eV 1) [.int m,d]=some (.dat (.bl (bw m d))):=by
 unfold cu eV;cases d with
 |tup l=>
  match l with
  | []=>simp! [U,bw]
  | [x]=>simp! [U,bw]
  |x::y::z::l=>
   have gG : ¬ ((((x::y::z::l).length:Nat):Int)=2):=by simp only[i6];lia
   have ht:bw m (.tup (x::y::z::l))=false:=by cases x <;> first |rfl | (cases y <;> rfl)
   simp! [U,ht];lia
  | [x,y]=>
   have w:=λn k=>lY (rn:=rn (n+24)) (bor:=[]) (k:=k+2) (g:=[.dat (.int m),.dat (.tup [x,y])]) (g1:=[.dat (.int m),.dat (.tup [x,y])]) (kk:=2) (nn:=2) (j:=3) (it:=.slot 1) (e:=.call 1 [(.slot 3),(.val (.int 0)),(.bin .Sub (.slot 0) (.val (.int 1)))]) [x,y] id (λz=>.bl (jZ 0 (m - 1) z)) (by simp! [U,eY]) rfl ⋯ ⋯ ⋯ (ak _ ⋯) λz hx G' hG=>by
    have h0:G'[0]?=some (.dat (.int m)):=hG.1 0 ⋯;simp! [U,hG.2,h0,c1,eU (fx:=bG 0) rfl,cy U c0]
   have e1:[x,y].map (λz=>D.bl (jZ 0 (m - 1) z))=([jZ 0 (m - 1) x,jZ 0 (m - 1) y]).map .bl:=rfl
   simp only[e1]at w;have no:(jZ 0 (m - 1) x=false\/jZ 0 (m - 1) y=false)->bw m (.tup [x,y])=false:=λh=>by
    cases x with
    |int a=>
     cases y with
     |int b=>simp only[jZ,BN]at h;simp only[bw,BN];lia
     |_=>rfl
    |_=>rfl
   by_cases hx:jZ 0 (m - 1) x=true
   .
    by_cases hy:jZ 0 (m - 1) y=true
    .
     simp only[hx,hy]at w;cases x with
     |int a=>
      cases y with
      |int b=>
       have i0:L2.dM [D.int a,.int b] 0=some (.int a):=rfl;have i1:L2.dM [D.int a,.int b] 1=some (.int b):=rfl;simp only[jZ,i5]at hx hy;have ht:bw m (.tup [.int a,.int b])=decide (a<b):=by simp only[bw,decide_eq_decide];lia
       simp! [U,w,i0,i1,ht]
      |_=>cases hy
     |_=>cases hx
    .
     have hy':jZ 0 (m - 1) y=false:=by simpa using hy
     simp only[hx,hy']at w;simp! [U,w,no (.inr hy')]
   .
    have hx':jZ 0 (m - 1) x=false:=by simpa using hx
    simp only[hx']at w;simp! [U,w,no (.inl hx')]
 |_=>simp! [U,bw,cW,j5]
theorem IW(xs:List (List Int))(hl:xs.length<=50):cu (rn (n+40)) k qp [.tup (xs.map λx=>~~~x)]=some (.dat (.bl (gF xs))):=by
 have w:=λn k=>lY (rn:=rn (n+16)) (bor:=[]) (k:=k) (g:=[.dat (.tup (xs.map λx=>~~~x))]) (g1:=[.dat (.tup (xs.map λx=>~~~x))]) (kk:=2) (nn:=1) (j:=2) (it:=.fy (.val (.int 1)) (.blt .len [(.slot 0)])) (e:=.cmp .Lt (.ix (.slot 0) (.bin .Sub (.slot 2) (.val (.int 1)))) (.ix (.slot 0) (.slot 2))) (List.range (xs.length - 1)) (λ(k:Nat)=>.int (1+k:Int)) (λj=>.bl (HT.lexLt (xs.getD j []) (xs.getD (j+1) []))) (by
   have e:((xs.length:Int) - 1).toNat=xs.length - 1:=by lia
   simp! [U,eY,aU 1 ⋯,aU (xs.length:Int) ⋯,e,cD]) rfl ⋯ ⋯ ⋯ (ak _ (by simp;lia)) λj hj G' hG=>by
  have h0:G'[0]?=some (.dat (.tup (xs.map λx=>~~~x))):=hG.1 0 ⋯
  have hj':=pV.mp hj;have j1:L2.dM (xs.map λx=>~~~x) (1+(j:Int) - 1)=some (~~~(xs.getD j [])):=by rw[show (1+(j:Int) - 1)=((j:Nat):Int)by lia,gk _ _ (by simp;lia)];simp[show j<xs.length by lia]
  have j2:L2.dM (xs.map λx=>~~~x) (1+(j:Int))=some (~~~(xs.getD (j+1) [])):=by rw[show (1+(j:Int))=((j+1:Nat):Int)by lia,gk _ _ (by simp;lia)];simp[show j+1<xs.length by lia]
  have hc:dQ .Lt (~~~(xs.getD j [])) (~~~(xs.getD (j+1) []))=some (HT.lexLt (xs.getD j []) (xs.getD (j+1) [])):=by simp only[dQ,U3,Ev.ints_map]
  generalize xs.getD j []=A at j1 hc;generalize xs.getD (j+1) []=B at j2 hc;simp! [U,hG.2,h0,j1,j2,hc]
 have e1:(List.range (xs.length - 1)).map (λj=>D.bl (HT.lexLt (xs.getD j []) (xs.getD (j+1) [])))=((List.range (xs.length - 1)).map λj=>HT.lexLt (xs.getD j []) (xs.getD (j+1) [])).map .bl:=by rw[List.map_map];rfl
 have e2:((List.range (xs.length - 1)).map λj=>HT.lexLt (xs.getD j []) (xs.getD (j+1) [])).all id=gF xs:=by simp only[gF,List.all_map];rfl
 simp only[e1]at w;generalize ((List.range (xs.length - 1)).map λj=>HT.lexLt (xs.getD j []) (xs.getD (j+1) []))=bs at w e2
 unfold cu qp;simp! [U,w,e2]
theorem qz(d:D)(hf:Fw d):cu (rn (n+60)) (k+5) (bC 1 3 4) [d]=some (.dat (.bl (bL d))):=by
 cases d with
 |tup l=>
  match l,hf with
  | [],_=>unfold cu bC;simp! [U,bL]
  | [x],_=>unfold cu bC;simp! [U,bL]
  |x::y::z::l,_=>
   have ht:bL (.tup (x::y::z::l))=false:=by cases x <;> first |rfl | (cases y <;> rfl)
   unfold cu bC;simp! [U,ht];lia
  | [x,y],hf=>
   have ty:cW (j5 (.tup [x,y])) "tuple"=true:=rfl;have bl:mG .len [.tup [x,y]]=some (.dat (.int 2)):=rfl;have st:∀s1 s2,Tg.set (.tp [1,2]) (.tup [x,y]) [.dat (.tup [x,y]),s1,s2]=some [.dat (.tup [x,y]),.dat x,.dat y]:=λ_ _=>rfl
   by_cases hx:jZ 1 6 x=true
   .
    cases y with
    |tup l=>
     have hl:l.length<=50:=hf;cases x with
     |int m=>
      simp only[jZ,i5]at hx;have w:=λn k=>lY (rn:=rn (n+50)) (bor:=[]) (k:=k+4) (g:=[.dat (.tup [.int m,.tup l]),.dat (.int m),.dat (.tup l)]) (g1:=[.dat (.tup [.int m,.tup l]),.dat (.int m),.dat (.tup l)]) (kk:=2) (nn:=3) (j:=4) (it:=.slot 2) (e:=.call 3 [(.slot 1),(.slot 4)]) l id (λx=>.bl (bw m x)) (by simp! [U,eY]) rfl ⋯ ⋯ ⋯ (ak _ ⋯) λx hx G' hG=>by
       have h1:G'[1]?=some (.dat (.int m)):=hG.1 1 ⋯;have q:=λn k=>IV U (n:=n) (k:=k) m x
       simp! [U,hG.2,h1,c3,eT (fx:=eV 1) rfl,q]
      have e1:l.map (λx=>D.bl (bw m x))=(l.map (bw m)).map .bl:=by rw[List.map_map];rfl
      have e2:(l.map (bw m)).all id=l.all (bw m):=by rw[List.all_map];rfl
      simp only[e1]at w;generalize l.map (bw m)=bs at w e2;have wb:bL (.tup [.int m,.tup l])=(l.all (bw m)&&gF (oJ l)):=by simp[bL,hx]
      by_cases ha:l.all (bw m)=true
      .
       rw[ha]at e2;obtain⟨z1,_⟩:=mF ha;have hl2:(oJ l).length<=50:=by have:=congrArg List.length z1;rw[gL]at this;lia
       have q:=λn k=>IW U (n:=n) (k:=k) (oJ l) hl2
       rw[<- z1]at q;rw[wb,ha,Bool.true_and];generalize gF (oJ l)=rb at q;unfold cu bC;simp! [U,ty,bl,Tg.ix,st,c1,eU (fx:=bG 0) rfl,cy U c0,jZ,hx,w,e2,c4,aH (fx:=qp) rfl,q]
      .
       have ha':l.all (bw m)=false:=by simpa using ha
       rw[ha']at e2;rw[wb,ha',AR];unfold cu bC;simp! [U,ty,bl,Tg.ix,st,c1,eU (fx:=bG 0) rfl,cy U c0,jZ,hx,w,e2]
     |_=>cases hx
    |_=>
     cases x with
     |int m=>unfold cu bC;simp! [U,ty,bl,Tg.ix,st,c1,eU (fx:=bG 0) rfl,cy U c0,hx,cW,j5,bL]
     |_=>cases hx
   .
    have hx':jZ 1 6 x=false:=by simpa using hx
    have wb:bL (.tup [x,y])=false:=by
     cases x with
     |int m=>
      cases y with
      |tup l=>simp only[jZ,BN]at hx';simp[bL,hx']
      |_=>rfl
     |_=>rfl
    rw[wb];unfold cu bC;simp! [U,ty,bl,Tg.ix,st,c1,eU (fx:=bG 0) rfl,cy U c0,hx']
 |_=>unfold cu bC;simp! [U,bL,cW,j5]
theorem Ja(m:Int)(l:List D)(d:D):(rn (n+40)).b [] (k+4) tD [.dat (.tup [.int m,.tup l]),.dat d]=if bw m d=true then some (.nx,[.dat (.tup [.int m,.tup l]),.dat d])else some (.rt (.dat (.bl false)),[.dat (.tup [.int m,.tup l]),.dat d]):=by
 have i0:Nq (.tup [.int m,.tup l]) (.int 0)=some (.int m):=rfl;unfold tD;cases d with
 |tup t=>
  match t with
  | []=>simp! [U,bw]
  | [x]=>simp! [U,bw]
  |x::y::z::t=>
   have ht:bw m (.tup (x::y::z::t))=false:=by cases x <;> first |rfl | (cases y <;> rfl)
   simp! [U,ht];lia
  | [x,y]=>
   have j0:L2.dM [x,y] 0=some x:=rfl;have j1:L2.dM [x,y] 1=some y:=rfl;have q:=λn k d=>eE U (n:=n) (k:=k) d
   cases x with
   |int a=>
    cases y with
    |int b=>
     by_cases h1:0<=a
     .
      by_cases h2:a<b
      .
       by_cases h3:b<m
       . simp! [U,bw,j0,j1,i0,DQ,aH (fx:=aQ) rfl,q,Ev.isInt,h1,h2,h3]
       . simp! [U,bw,j0,j1,i0,DQ,aH (fx:=aQ) rfl,q,Ev.isInt,h1,h2,h3]
      . simp! [U,bw,j0,j1,i0,DQ,aH (fx:=aQ) rfl,q,Ev.isInt,h1,h2]
     . simp! [U,bw,j0,j1,i0,DQ,aH (fx:=aQ) rfl,q,Ev.isInt,h1]
    |_=>simp! [U,bw,j0,j1,i0,DQ,aH (fx:=aQ) rfl,q,Ev.isInt]
   |_=>simp! [U,bw,j0,j1,i0,DQ,aH (fx:=aQ) rfl,q,Ev.isInt]
 |_=>simp! [U,bw,cW,j5]
end
end L1
namespace L1
open Ev
section
variable{k n:Nat}{g g1:G}{rn:Nat->Rn}(U:ql fns rn)
include U
theorem oK(m:Int)(l:List D):∀(t:List D) (s1:Slot),∃s2,fQ (.nm 1) ((rn (n+40)).b [] (k+4) tD) t [.dat (.tup [.int m,.tup l]),s1]=if t.all (bw m)=true then some (.nx,[.dat (.tup [.int m,.tup l]),s2])else some (.rt (.dat (.bl false)),[.dat (.tup [.int m,.tup l]),s2])
 | [],s1=>⟨s1,rfl⟩
 |d::t,s1=>by
  have q:=Ja U (n:=n) (k:=k) m l d;have hs:Tg.set (.nm 1) d [.dat (.tup [.int m,.tup l]),s1]=some [.dat (.tup [.int m,.tup l]),.dat d]:=rfl;by_cases h:bw m d=true
  . obtain⟨s2,ih⟩:=oK m l t (.dat d);rw[fN h]at q;refine⟨s2,?_⟩;unfold fQ;rw[hs];dsimp only;rw[q];dsimp only;rw[ih,CC,h,Bool.true_and]
  . rw[fI h]at q;refine⟨.dat d,?_⟩;unfold fQ;rw[hs];dsimp only;rw[q];dsimp only;rw[CC,BY.mpr h,AR];rfl
theorem DT(a b:List (List Int)):dQ .Eq (.lst (a.map λx=>~~~x)) (.lst (b.map Eh))=some (decide (a=b)):=by
 have h1:fP (.lst (a.map λx=>~~~x)) (.lst (b.map λx=>~~~x))=true:=by have:=oF a;simp[fP,jc,oE,dep];lia
 show (if fP (.lst (a.map λx=>~~~x)) (.lst (b.map λx=>~~~x))=true then some (bZ (a.map λx=>~~~x) (b.map λx=>~~~x))else none)=_
 rw[fN h1,oG]
theorem Jb(d:D)(hf:Fw d):cu (rn (n+60)) (k+5) yM [d]=some (.dat (.bl (bL d))):=by
 have q:=λn k d=>eE U (n:=n) (k:=k) d
 cases d with
 |tup t=>
  match t,hf with
  | [],_=>unfold cu yM;simp! [U,bL]
  | [x],_=>unfold cu yM;simp! [U,bL]
  |x::y::z::l,_=>
   have ht:bL (.tup (x::y::z::l))=false:=by cases x <;> first |rfl | (cases y <;> rfl)
   unfold cu yM;simp! [U,ht];lia
  | [x,y],hf=>
   have j0:L2.dM [x,y] 0=some x:=rfl;have j1:L2.dM [x,y] 1=some y:=rfl;cases x with
   |int m=>
    by_cases h1:1<=m
    .
     by_cases h2:m<=6
     .
      cases y with
      |tup l=>
       have hl:l.length<=50:=hf;obtain⟨s2,lp⟩:=oK U (n:=n+19) (k:=k+1) m l l .no;have wb:bL (.tup [.int m,.tup l])=(l.all (bw m)&&gF (oJ l)):=by simp[bL,h1,h2]
       have e1:aE (rn (n+59)) [] (k+5) (.ite (.or [(.not (.jV (.slot 0) "tuple")),(.cmp .NotEq (.blt .len [(.slot 0)]) (.val (.int 2))),(.not (.call 11 [(.ix (.slot 0) (.val (.int 0)))])),(.not (.chain (.val (.int 1)) [.LtE,.LtE] [(.ix (.slot 0) (.val (.int 0))),(.val (.int 6))]))]) [(.ret (.val (.bl false)))] []) [.dat (.tup [.int m,.tup l]),.no]=some (.nx,[.dat (.tup [.int m,.tup l]),.no]):=by simp! [U,j0,DQ,aH (fx:=aQ) rfl,q,Ev.isInt,h1,h2]
       have e2:aE (rn (n+59)) [] (k+5) (.ite (.not (.jV (.ix (.slot 0) (.val (.int 1))) "tuple")) [(.ret (.val (.bl false)))] []) [.dat (.tup [.int m,.tup l]),.no]=some (.nx,[.dat (.tup [.int m,.tup l]),.no]):=by simp! [U,j1]
       have hw:eY (rn (n+59)) [] (k+5) false (.ix (.slot 0) (.val (.int 1))) [.dat (.tup [.int m,.tup l]),.no]=some (l,[.dat (.tup [.int m,.tup l]),.no]):=by unfold eY;simp! [U,j1]
       have e3:aE (rn (n+59)) [] (k+5) (.loop (.nm 1) (.ix (.slot 0) (.val (.int 1))) tD) [.dat (.tup [.int m,.tup l]),.no]=if l.all (bw m)=true then some (.nx,[.dat (.tup [.int m,.tup l]),s2])else some (.rt (.dat (.bl false)),[.dat (.tup [.int m,.tup l]),s2]):=by rw[<- lp];simp only[aE,Tg.ix,Tg.jx,hw];rfl
       unfold cu yM;simp only[Qj,dm];rw[U.b];show (match cX _ _ _ _ [.dat (.tup [.int m,.tup l]),.no]with |some (.rt r,gc)=>gX [] gc r |some (.nx,_)=>some (.dat .non) |_=>none)=_
       rw[aB e1,aB e2];by_cases ha:l.all (bw m)=true
       .
        rw[fN ha]at e3;rw[aB e3];obtain⟨z1,z2⟩:=mF ha;have hl2:(oJ l).length<=50:=by have:=congrArg List.length z1;rw[gL]at this;lia
        have tp:dF l=some (oJ l):=by
         have:=sQ (oJ l) λx hx=>by obtain⟨a,b,rfl,_⟩:=z2 x hx;exact Cc _ _
         rw[<- z1]at this;exact this
        have ce:dQ .Eq (.lst l) (.lst ((bh cE (bN [] (oJ l))).map Eh))=some (gF (oJ l)):=by have:=DT U (oJ l) (bh cE (bN [] (oJ l)));rw[<- z1,DS]at this;exact this
        rw[wb,ha,Bool.true_and];have h64:(oJ l).length<64:=by lia
        generalize gF (oJ l)=rb at ce;simp! [U,j1,tp,h64,ce]
       . rw[fI ha]at e3;unfold cX;rw[e3,wb,BY.mpr ha,AR];rfl
      |_=>unfold cu yM;simp! [U,j0,j1,DQ,aH (fx:=aQ) rfl,q,Ev.isInt,h1,h2,cW,j5,bL]
     .
      have wb:bL (.tup [.int m,y])=false:=by
       cases y with
       |tup l=>simp[bL,h2]
       |_=>rfl
      unfold cu yM;simp! [U,j0,j1,DQ,aH (fx:=aQ) rfl,q,Ev.isInt,h1,h2,wb]
    .
     have wb:bL (.tup [.int m,y])=false:=by
      cases y with
      |tup l=>simp[bL,h1]
      |_=>rfl
     unfold cu yM;simp! [U,j0,j1,DQ,aH (fx:=aQ) rfl,q,Ev.isInt,h1,wb]
   |_=>unfold cu yM;simp! [U,j0,j1,DQ,aH (fx:=aQ) rfl,q,Ev.isInt,bL]
 |_=>unfold cu yM;simp! [U,bL,cW,j5]
end
end L1
namespace L1
open Ev
abbrev fb(s:Int)(fl:Bool)(w:D)(a2 a3 a4 a5 a6 a7 a8:Slot):G:=[St s fl,.dat w,a2,a3,a4,a5,a6,a7,a8]
section
variable{k n:Nat}{g g1:G}{rn:Nat->Rn}(U:ql fns rn)
include U
theorem Jc{i:Nat}{s:Int}{fl:Bool}(m:Nat)(hm:1<=m/\m<=6)(t:List D)(ht:t.length<=15)(hi:g[i]?=some (St s fl)):∃(d:D) (s':Int),Fw d/\aO (rn (n+60)) Px (k+1) [.var i,.dat (.tup [.int m,.tup t])] g=some (.dat d,g.set i (St s' fl)):=by
 generalize hw:D.tup [.int m,.tup t]=w;have e1:aE (rn (n+59)) [0] (k+1) b1 (fb s fl w .no .no .no .no .no .no .no)=some (.nx,fb s fl w (.dat (.int m)) (.dat (.tup t)) .no .no .no .no .no):=by
  have st:Tg.set (.tp [2,3]) w (fb s fl w .no .no .no .no .no .no .no)=some (fb s fl w (.dat (.int m)) (.dat (.tup t)) .no .no .no .no .no):=by rw[<- hw];rfl
  unfold b1;simp! [U,Tg.ix,st]
 obtain⟨p,s1,p1,p2,q1⟩:=bS U (n:=n+38) (k:=k) (g:=fb s fl w (.dat (.int m)) (.dat (.tup t)) .no .no .no .no .no) (i:=0) (s:=s) (fl:=fl) (m:=(t.length:Int)+1) rfl ⋯;have K8:aO (rn (n+58)) bq k [.var 0,.dat (.int ((t.length:Int)+1))] (fb s fl w (.dat (.int m)) (.dat (.tup t)) .no .no .no .no .no)=some (.dat (.int p),fb s1 fl w (.dat (.int m)) (.dat (.tup t)) .no .no .no .no .no):=q1;have e2:aE (rn (n+59)) [0] (k+1) b2 (fb s fl w (.dat (.int m)) (.dat (.tup t)) .no .no .no .no .no)=some (.nx,fb s1 fl w (.dat (.int m)) (.dat (.tup t)) (.dat (.int p)) .no .no .no .no):=by unfold b2;simp! [U,c7,K8]
 obtain⟨a,s2,a1,a2,q2⟩:=bS U (n:=n+38) (k:=k) (g:=fb s1 fl w (.dat (.int m)) (.dat (.tup t)) (.dat (.int p)) .no .no .no .no) (i:=0) (s:=s1) (fl:=fl) (m:=(m:Int)+1) rfl ⋯;have Jw:aO (rn (n+58)) bq k [.var 0,.dat (.int ((m:Int)+1))] (fb s1 fl w (.dat (.int m)) (.dat (.tup t)) (.dat (.int p)) .no .no .no .no)=some (.dat (.int a),fb s2 fl w (.dat (.int m)) (.dat (.tup t)) (.dat (.int p)) .no .no .no .no):=q2;obtain⟨b,s3,b1',b2',q3⟩:=bS U (n:=n+38) (k:=k) (g:=fb s2 fl w (.dat (.int m)) (.dat (.tup t)) (.dat (.int p)) .no .no .no .no) (i:=0) (s:=s2) (fl:=fl) (m:=(m:Int)+1) rfl ⋯;have Um:aO (rn (n+58)) bq k [.var 0,.dat (.int ((m:Int)+1))] (fb s2 fl w (.dat (.int m)) (.dat (.tup t)) (.dat (.int p)) .no .no .no .no)=some (.dat (.int b),fb s3 fl w (.dat (.int m)) (.dat (.tup t)) (.dat (.int p)) .no .no .no .no):=q3;have e3:aE (rn (n+59)) [0] (k+1) b3 (fb s1 fl w (.dat (.int m)) (.dat (.tup t)) (.dat (.int p)) .no .no .no .no)=some (.nx,fb s3 fl w (.dat (.int m)) (.dat (.tup t)) (.dat (.int p)) (.dat (.int a)) (.dat (.int b)) .no .no):=by unfold b3;simp! [U,c7,Jw,Um]
 generalize hO:[D.tup [.int a,.int b],.tup [.int b,.int a],.tup [.int a,.int a],.tup [.int (-1),.int a],.tup [.int a,.bl true],.tup [.int a],.tup [.int a,.int b,.int b],.lst [.int a,.int b],.non,.str (PySem.Str.ofString "01"),.int a,.tup [.int a,.non],.tup [.tup [.int a,.int b]]]=O;have ol:O.length=13:=by rw[<- hO];rfl
 have e4:aE (rn (n+59)) [0] (k+1) b4 (fb s3 fl w (.dat (.int m)) (.dat (.tup t)) (.dat (.int p)) (.dat (.int a)) (.dat (.int b)) .no .no)=some (.nx,fb s3 fl w (.dat (.int m)) (.dat (.tup t)) (.dat (.int p)) (.dat (.int a)) (.dat (.int b)) (.own O) .no):=by unfold b4;simp! [U,ak 1 ⋯,ak 2 ⋯,ak 3 ⋯,ak 13 ⋯,hO,ol]
 obtain⟨j,s4,j1,j2,q5⟩:=bS U (n:=n+37) (k:=k) (g:=fb s3 fl w (.dat (.int m)) (.dat (.tup t)) (.dat (.int p)) (.dat (.int a)) (.dat (.int b)) (.own O) .no) (i:=0) (s:=s3) (fl:=fl) (m:=13) rfl ⋯;have q5':aO (rn (n+57)) bq k [.var 0,.dat (.int 13)] (fb s3 fl w (.dat (.int m)) (.dat (.tup t)) (.dat (.int p)) (.dat (.int a)) (.dat (.int b)) (.own O) .no)=some (.dat (.int j),fb s4 fl w (.dat (.int m)) (.dat (.tup t)) (.dat (.int p)) (.dat (.int a)) (.dat (.int b)) (.own O) .no):=q5;obtain⟨o,ho,eo⟩:=qw (l:=O) (r:=j) ⟨j1,by rw[ol];exact j2⟩
 have e5:aE (rn (n+59)) [0] (k+1) b5 (fb s3 fl w (.dat (.int m)) (.dat (.tup t)) (.dat (.int p)) (.dat (.int a)) (.dat (.int b)) (.own O) .no)=some (.nx,fb s4 fl w (.dat (.int m)) (.dat (.tup t)) (.dat (.int p)) (.dat (.int a)) (.dat (.int b)) (.dat o) .no):=by unfold b5;simp! [U,c7,q5',eo]
 generalize hA:fG t none (some p)=A;generalize hB:fG t (some (p+1)) none=B;generalize hC:fG t (some p) none=C;generalize hE:fG t (some p) (some (p+1))=E;have pA:A.length<=15:=by rw[<- hA];exact l5 (iY _ _ _) ⋯
 have pB:B.length<=15:=by rw[<- hB];exact l5 (iY _ _ _) ⋯
 have pC:C.length<=15:=by rw[<- hC];exact l5 (iY _ _ _) ⋯
 have pE:E.length<=15:=by rw[<- hE];exact l5 (iY _ _ _) ⋯
 have add:∀l r:List D,l.length+r.length<=1000->∃z,z.length=l.length+r.length/\uT .Add (.tup l) (.tup r)=some (.dat (.tup z)):=λl r h=>⟨l++r,eQ,IK l r h⟩
 obtain⟨Ao,lo,o1⟩:=add A [o] (by simp;lia)
 rw[oQ]at lo;obtain⟨F0,l0,o2⟩:=add A B ⋯;obtain⟨F1,l1,o3⟩:=add Ao C ⋯;obtain⟨F2,l2,o4⟩:=add Ao B ⋯;obtain⟨Ae,le,o5⟩:=add A E ⋯;obtain⟨F3,l3,o6⟩:=add Ae C ⋯;have sm:mG .str [.int m]=some (.dat (.str (toString (m:Int)))):=by
  show (if (m:Int).natAbs.log2<1920 then _ else _)=_
  rw[fN];have:(m:Int).natAbs<=6:=by lia
  exact Nat.lt_of_le_of_lt (Nat.log2_le_self _) ⋯
 generalize toString (m:Int)=tm at sm;generalize hZ:[D.tup [.int m,.tup F0],.tup [.int m,.tup F1],.tup [.int ((m:Int) - 1),.tup t]]=Z;generalize hY:[D.tup [.int m,.tup F2],.tup [.int m,.tup F3]]=Y;generalize hX:[D.tup [.int m,.tup t.reverse],.tup [.int m,.lst t],.lst [.int m,.tup t],.tup [.int ((m:Int)+1),.tup t],.tup [.int m],.tup [.tup t,.int m]]=X;generalize hV:[D.tup [.int m,.tup t,.tup []],.tup [.bl true,.tup t],.tup [.str tm,.tup t],.tup [.int 7,.tup t]]=V;have zl:Z.length=3:=by rw[<- hZ];rfl
 have yl:Y.length=2:=by rw[<- hY];rfl
 have xl:X.length=6:=by rw[<- hX];rfl
 have vl:V.length=4:=by rw[<- hV];rfl
 have e6:aE (rn (n+59)) [0] (k+1) b6 (fb s4 fl w (.dat (.int m)) (.dat (.tup t)) (.dat (.int p)) (.dat (.int a)) (.dat (.int b)) (.dat o) .no)=some (.nx,fb s4 fl w (.dat (.int m)) (.dat (.tup t)) (.dat (.int p)) (.dat (.int a)) (.dat (.int b)) (.dat o) (.own Z)):=by unfold b6;simp! [U,sA,hA,hB,hC,o1,o2,o3,ak 1 ⋯,ak 2 ⋯,ak 3 ⋯,hZ,zl]
 have e7:aE (rn (n+59)) [0] (k+1) b7 (fb s4 fl w (.dat (.int m)) (.dat (.tup t)) (.dat (.int p)) (.dat (.int a)) (.dat (.int b)) (.dat o) (.own Z))=some (.nx,fb s4 fl w (.dat (.int m)) (.dat (.tup t)) (.dat (.int p)) (.dat (.int a)) (.dat (.int b)) (.dat o) (.own (Z++Y))):=by unfold b7;simp! [U,sA,hA,hB,hC,hE,o1,o4,o5,o6,ak 1 ⋯,ak 2 ⋯,hY,yl,gn Z Y ⋯]
 generalize YK:Z++Y=ZY at e7;have zyl:ZY.length=5:=by rw[<- YK,eQ,zl,yl]
 have e8:aE (rn (n+59)) [0] (k+1) b8 (fb s4 fl w (.dat (.int m)) (.dat (.tup t)) (.dat (.int p)) (.dat (.int a)) (.dat (.int b)) (.dat o) (.own ZY))=some (.nx,fb s4 fl w (.dat (.int m)) (.dat (.tup t)) (.dat (.int p)) (.dat (.int a)) (.dat (.int b)) (.dat o) (.own (ZY++X))):=by unfold b8;simp! [U,ak 1 ⋯,ak 2 ⋯,hX,xl,ak 6 ⋯,gn ZY X ⋯]
 generalize YL:ZY++X=ZX at e8;have zxl:ZX.length=11:=by rw[<- YL,eQ,zyl,xl]
 have e9:aE (rn (n+59)) [0] (k+1) b9 (fb s4 fl w (.dat (.int m)) (.dat (.tup t)) (.dat (.int p)) (.dat (.int a)) (.dat (.int b)) (.dat o) (.own ZX))=some (.nx,fb s4 fl w (.dat (.int m)) (.dat (.tup t)) (.dat (.int p)) (.dat (.int a)) (.dat (.int b)) (.dat o) (.own (ZX++V))):=by unfold b9;simp! [U,sm,ak 0 ⋯,ak 2 ⋯,ak 3 ⋯,hV,vl,ak 4 ⋯,gn ZX V ⋯]
 generalize hL:ZX++V=L at e9;have ll:L.length=15:=by rw[<- hL,eQ,zxl,vl]
 obtain⟨r,s5,r1,r2,q6⟩:=bS U (n:=n+37) (k:=k) (g:=fb s4 fl w (.dat (.int m)) (.dat (.tup t)) (.dat (.int p)) (.dat (.int a)) (.dat (.int b)) (.dat o) (.own L)) (i:=0) (s:=s4) (fl:=fl) (m:=15) rfl ⋯;have q6':aO (rn (n+57)) bq k [.var 0,.dat (.int 15)] (fb s4 fl w (.dat (.int m)) (.dat (.tup t)) (.dat (.int p)) (.dat (.int a)) (.dat (.int b)) (.dat o) (.own L))=some (.dat (.int r),fb s5 fl w (.dat (.int m)) (.dat (.tup t)) (.dat (.int p)) (.dat (.int a)) (.dat (.int b)) (.dat o) (.own L)):=q6;obtain⟨d,hd,ed⟩:=qw (l:=L) (r:=r) ⟨r1,by rw[ll];exact r2⟩
 have e10:aE (rn (n+59)) [0] (k+1) Xq (fb s4 fl w (.dat (.int m)) (.dat (.tup t)) (.dat (.int p)) (.dat (.int a)) (.dat (.int b)) (.dat o) (.own L))=some (.rt (.dat d),fb s5 fl w (.dat (.int m)) (.dat (.tup t)) (.dat (.int p)) (.dat (.int a)) (.dat (.int b)) (.dat o) (.own L)):=by unfold Xq;simp! [U,c7,q6',ed]
 refine⟨d,s5,?_,?_⟩
 .
  rw[<- hL,<- YL,<- YK,<- hZ,<- hY,<- hX,<- hV]at hd;simp only[xL,dS,i8,wS]at hd;rcases hd with (((rfl |rfl |rfl) | (rfl |rfl)) | (rfl |rfl |rfl |rfl |rfl |rfl)) | (rfl |rfl |rfl |rfl)
  . show F0.length<=50;lia
  . show F1.length<=50;lia
  . show t.length<=50;lia
  . show F2.length<=50;lia
  . show F3.length<=50;lia
  . show t.reverse.length<=50;rw[Bi];lia
  . trivial
  . trivial
  . show t.length<=50;lia
  . trivial
  . trivial
  . trivial
  . show t.length<=50;lia
  . show t.length<=50;lia
  . show t.length<=50;lia
 have hp:dm Px.n [St s fl,.dat w]=fb s fl w .no .no .no .no .no .no .no:=rfl;have body:(rn (n+60)).b [0] (k+1) Px.body (fb s fl w .no .no .no .no .no .no .no)=some (.rt (.dat d),fb s5 fl w (.dat (.int m)) (.dat (.tup t)) (.dat (.int p)) (.dat (.int a)) (.dat (.int b)) (.dat o) (.own L)):=by unfold Px;rw[U.b,aB e1,aB e2,aB e3,aB e4,aB e5,aB e6,aB e7,aB e8,aB e9];unfold cX;rw[e10]
 unfold aO;simp only[vars,bX,hi,List.map_cons,List.map_nil];rw[fN ⟨rfl,by simp⟩,hp,body]
 rfl
end
end L1
namespace Ev
section
variable{rn:Rn}{bor:List Nat}{k:Nat}
theorem yN{g m:G}{acc:List D}{i:Nat}{s:Slot}(h:i<g.length):(gM g m acc).set i s=gM (g.set i s) m acc:=by unfold gM;rw[List.set_append_left _ _ h]
theorem tG{i j last kk:Nat}{fl:Bool}{e:Ex}{P:D->Prop}(g:G)(hi:i<g.length)(fF:last=g.length+kk)(hj1:g.length<=j)(hj2:j<g.length+kk)
  (he:∀s G',G'[i]?=some (St s fl)->(∀i',i'≠i->i'<g.length->G'[i']?=g[i']?)->∃d s',P d/\fz rn bor k e G'=some (d,G'.set i (St s' fl))) :
  ∀(items:List D) (s:Int) (m:G) (acc:List D),m.length=kk->acc.length+items.length<=lim->∃ds s' m',m'.length=kk/\ds.length=items.length/\(∀d∈ds,P d)/\yw rn bor k (.nm j) last none e items (gM (g.set i (St s fl)) m acc)=some (gM (g.set i (St s' fl)) m' (acc++ds))
 | [],s,m,acc,hm,_=>⟨[],s,m,hm,rfl,(λ_ h=>nomatch h),by rw[tP];rfl⟩
 |x::items,s,m,acc,hm,hl=>by
  rw[i6]at hl;have hg:(g.set i (St s fl)).length=g.length:=tS;have q1:Tg.set (.nm j) x (gM (g.set i (St s fl)) m acc)=some (gM (g.set i (St s fl)) (m.set (j - g.length) (.dat x)) acc):=by
   show some ((gM (g.set i (St s fl)) m acc).set j (.dat x))=_;have:=eS (g:=g.set i (St s fl)) (m:=m) (acc:=acc) (i:=j - g.length) (s:=.dat x) ⋯;rw[hg,show g.length+(j - g.length)=j by lia]at this
   rw[this]
  obtain⟨d,s1,hd,q2⟩:=he s (gM (g.set i (St s fl)) (m.set (j - g.length) (.dat x)) acc) (by rw[gf ⋯,i9 hi]) λi' h1 h2=>by rw[gf ⋯,i4 (t9 h1)]
  rw[yN ⋯,List.set_set]at q2;have hm':(m.set (j - g.length) (Slot.dat x)).length=kk:=by rw[tS];exact hm
  obtain⟨ds,s',m',w1,w2,w3,w4⟩:=tG g hi fF hj1 hj2 he items s1 (m.set (j - g.length) (.dat x)) (acc++[d]) hm' (by rw[eQ,oQ];lia)
  refine⟨d::ds,s',m',w1,by rw[i6,i6,w2],λy hy=>(dS.mp hy).elim (λe=>e▸hd) (w3 y),?_⟩
  have nM:(g.set i (St s1 fl)).length=g.length:=tS;have q4:(gM (g.set i (St s1 fl)) (m.set (j - g.length) (.dat x)) acc)[last]?=some (.own acc):=by rw[fF,<- hm',<- nM];exact gg
  have q5:(gM (g.set i (St s1 fl)) (m.set (j - g.length) (.dat x)) acc).set last (.own (acc++[d]))=gM (g.set i (St s1 fl)) (m.set (j - g.length) (.dat x)) (acc++[d]):=by rw[fF,<- hm',<- nM];exact fV
  unfold yw;rw[q1];dsimp only[yW];rw[q2];dsimp only;rw[q4];dsimp only;rw[fN ⋯,q5,w4,AH];rfl
theorem yO{i j nn kk:Nat}{fl:Bool}{it e:Ex}{P:D->Prop}(g:G)(s:Int)(hg:g[i]?=some (St s fl))(items:List D)(hw:eY rn bor k false it g=some (items,g))(hn:nn=g.length)(hj1:g.length<=j)(hj2:j<g.length+kk)(hb:j∉bor)(hl:items.length<=lim)
  (he:∀s G',G'[i]?=some (St s fl)->(∀i',i'≠i->i'<g.length->G'[i']?=g[i']?)->∃d s',P d/\fz rn bor k e G'=some (d,G'.set i (St s' fl))) :
  ∃ds s',ds.length=items.length/\(∀d∈ds,P d)/\cJ rn bor k nn kk (.nm j) it none e g=some (ds,g.set i (St s' fl)):=by
 subst hn;have hi:i<g.length:=(dE.mp hg).1;obtain⟨ds,s',m',w1,w2,w3,w4⟩:=tG g hi rfl hj1 hj2 he items s (List.replicate kk .no) [] ⋯ (by simpa using hl)
 have e0:g.set i (St s fl)=g:=by
  apply List.ext_getElem?;intro a;by_cases h:a=i
  . subst h;rw[i9 hi,hg]
  . rw[i4 (t9 h)]
 rw[e0]at w4;refine⟨ds,s',w2,w3,?_⟩;have nM:(g.set i (St s' fl)).length=g.length:=tS;have q4:(gM (g.set i (St s' fl)) m' ([]++ds))[g.length+kk]?=some (.own ds):=by have:=gg (g:=g.set i (St s' fl)) (m:=m') (acc:=[]++ds);rw[nM,w1]at this;exact this
 have q5:(gM (g.set i (St s' fl)) m' ([]++ds)).take g.length=g.set i (St s' fl):=by rw[<- nM];exact qj
 unfold cJ;rw[show Tg.jx (.nm j)=false from rfl,hw]
 dsimp only;rw[fN ⟨rfl,by simpa [Tg.ix]using hb⟩,Dn,w4]
 dsimp only;rw[q4];dsimp only;rw[q5]
end
end Ev
namespace L1
open Ev
section
variable{k n:Nat}{g g1:G}{rn:Nat->Rn}(U:ql fns rn)
include U
theorem Py(d:D)(hd:Fw d)(a0 a1 a2 a3 a4:Slot):(rn (n+128)).b [] (k+13) wH [a0,a1,a2,a3,a4,.dat d]=some (.nx,[a0,a1,a2,a3,a4,.dat d]):=by
 have q1:=λn k=>qz U (n:=n) (k:=k) d hd
 have q2:=λn k=>Jb U (n:=n) (k:=k) d hd
 have q3:=λn k=>wG U YJ 0 n k (.bl (bL d)) trivial
 simp only[Nat.reduceMul,Nat.add_assoc,Nat.reduceAdd,B7]at q3;unfold wH;simp! [U,c2,aH (fx:=bC 1 3 4) rfl,q1,c12,aH (fx:=yM) rfl,q2,YJ,eT (fx:=cZ 14) rfl,q3]
theorem Pz(d:D)(hd:Fw d)(a0 a1 a2 a3 a4:Slot):(rn (n+129)).b [] (k+13) tE [a0,a1,a2,a3,a4,.dat d]=some (.nx,[a0,a1,a2,a3,.dat (.int 1),.dat d]):=by
 have q:=λa=>Py U (n:=n) (k:=k) d hd a0 a1 a2 a3 a
 have hw:eY (rn (n+128)) [] (k+13) false (.dP (.val (.int 2))) [a0,a1,a2,a3,a4,.dat d]=some ([.int 0,.int 1],[a0,a1,a2,a3,a4,.dat d]):=by have rr:cD 0 2=[.int 0,.int 1]:=rfl;simp! [U,eY,aU 2 ⋯,rr]
 generalize hb:(rn (n+128)).b [] (k+13) wH=bb at q;unfold tE;rw[U.b];simp only[cX,aE,Tg.ix,Tg.jx,hw,hb];simp[fQ,Tg.set,q]
theorem cell(ns:List Int)(hl:ns.length<=63)(j:Nat)(a2 a3 a4 a5:Slot):∃b2 b3 b4 b5,(rn (n+131)).b [] (k+13) tF [.dat (.fix (ns.map .int)),.dat (.int j),a2,a3,a4,a5]=some (.nx,[.dat (.fix (ns.map .int)),.dat (.int j),b2,b3,b4,b5]):=by
 obtain⟨s,fl,q1⟩:=Dz U c5 (n:=n+89) (k:=k+11) ns ⋯ j;generalize hA0:Slot.dat (.fix (ns.map .int))=A0;generalize hA1:Slot.dat (.int (j:Int))=A1;have e1:aE (rn (n+130)) [] (k+13) (.set 2 (.call 6 [(.slot 0),(.slot 1)])) [A0,A1,a2,a3,a4,a5]=some (.nx,[A0,A1,St s fl,a3,a4,a5]):=by subst hA0 hA1;simp! [U,c6,eT (fx:=jD 5) rfl,q1]
 obtain⟨m,aA,s1,hm,h,q2⟩:=Pw U c7 c8 c9 (n:=n+49) (k:=k+9) (g:=[A0,A1,St s fl,a3,a4,a5]) (i:=2) (s:=s) (fl:=fl) rfl;have Jw:aO (rn (n+129)) (vg 7 8 9) (k+12) [.var 2,.dat (.int 6)] [A0,A1,St s fl,a3,a4,a5]=some (.dat (W m aA),[A0,A1,St s1 fl,a3,a4,a5]):=q2;have e2:aE (rn (n+130)) [] (k+13) (.set 3 (.call 10 [(.slot 2),(.val (.int 6))])) [A0,A1,St s fl,a3,a4,a5]=some (.nx,[A0,A1,St s1 fl,.dat (W m aA),a4,a5]):=by simp! [U,c10,Jw]
 have q3:=λn k=>DK U c0 c1 c3 c4 (n:=n) (k:=k) m aA hm h
 have Xr:dQ .IsNot (.bl true) (.bl true)=some false:=rfl;have e3:aE (rn (n+130)) [] (k+13) (.ite (.cmp .IsNot (.call 2 [(.slot 3)]) (.val (.bl true))) [(.ret (.val (.bl false)))] []) [A0,A1,St s1 fl,.dat (W m aA),a4,a5]=some (.nx,[A0,A1,St s1 fl,.dat (W m aA),a4,a5]):=by simp! [U,c2,aH (fx:=bC 1 3 4) rfl,q3,Xr]
 have tl:(aA.map λx=>~~~x).length<=15:=by rw[gL];exact h.len
 obtain⟨ds,s2,d1,d2,d3⟩:=yO (rn:=rn (n+128)) (bor:=[]) (k:=k+13) (i:=2) (j:=7) (nn:=6) (kk:=2) (fl:=fl) (it:=.dP (.val (.int 6))) (e:=.call 15 [(.slot 2),(.slot 3)]) (P:=Fw) [A0,A1,St s1 fl,.dat (W m aA),a4,a5] s1 rfl (cD 0 6) (by simp! [U,eY,aU 6 ⋯]) rfl (show 6<=7 by decide) (show 7<6+2 by decide) ⋯ (ak _ ⋯)
  (λs G' h0 hG=>by
   have h3:G'[3]?=some (.dat (W m aA)):=hG 3 ⋯ (show 3<6 by decide)
   obtain⟨d,s',hd,q⟩:=Jc U (n:=n+67) (k:=k+11) (g:=G') (i:=2) (s:=s) (fl:=fl) m hm _ tl h0;have q':aO (rn (n+127)) Px (k+12) [.var 2,.dat (W m aA)] G'=some (.dat d,G'.set 2 (St s' fl)):=q;refine⟨d,s',hd,?_⟩;simp! [U,c15,h0,h3,q'])
 have d3':cJ (rn (n+128)) [] (k+13) 6 2 (.nm 7) (.dP (.val (.int 6))) none (.call 15 [(.slot 2),(.slot 3)]) [A0,A1,St s1 fl,.dat (W m aA),a4,a5]=some (ds,[A0,A1,St s2 fl,.dat (W m aA),a4,a5]):=d3;have dl:ds.length=6:=d1;obtain⟨b,s3,hb,q8⟩:=yL U c7 (n:=n+67) (k:=k+11) (g:=[A0,A1,St s2 fl,.dat (W m aA),a4,a5]) (i:=2) (s:=s2) (fl:=fl) rfl;have q8':aO (rn (n+127)) (bH 7) (k+12) [.var 2] [A0,A1,St s2 fl,.dat (W m aA),a4,a5]=some (.dat b,[A0,A1,St s3 fl,.dat (W m aA),a4,a5]):=q8;have hw:eY (rn (n+130)) [] (k+13) false (.bin .Add (.comp 6 2 (.nm 7) (.dP (.val (.int 6))) none (.call 15 [(.slot 2),(.slot 3)])) (.lst [(.call 13 [(.slot 2)])])) [A0,A1,St s1 fl,.dat (W m aA),a4,a5]=some (ds++[b],[A0,A1,St s3 fl,.dat (W m aA),a4,a5]):=by unfold eY;simp! [U,d3',c13,q8',ak 1 ⋯,gn ds [b] (by simp;lia)]
 have few:∀d∈ds++[b],Fw d:=λd hd=>by
  rcases xL.mp hd with hd |hd
  . exact d2 d hd
  . rw[gN.mp hd];unfold mD sZ tB DP at hb;simp only[xL,dS,i8,wS]at hb;rcases hb with ((rfl |rfl |rfl |rfl |rfl |rfl |rfl |rfl |rfl |rfl |rfl |rfl) | (rfl |rfl |rfl |rfl |rfl)) | (rfl |rfl |rfl |rfl |rfl |rfl |rfl |rfl) <;> first |trivial | (show (_:Nat)<=50;decide)
 obtain⟨g',⟨_,b4,b5,rfl⟩,h4⟩:=ez (T:=.nm 5) (b:=(rn (n+130)).b [] (k+13) tE) (λd:D=>d)
  (I:=λl g=>(∀d∈l,Fw d)/\∃b4 b5:Slot,g=[A0,A1,St s3 fl,.dat (W m aA),b4,b5])
  (step:=λd l g h=>by
   obtain⟨h1,b4,b5,rfl⟩:=h;exact⟨_,_,rfl,Pz U (n:=n+1) (k:=k) d (h1 d dC) A0 A1 _ _ b4,λx hx=>h1 x (b0 _ hx),_,_,rfl⟩) (ds++[b]) [A0,A1,St s3 fl,.dat (W m aA),a4,a5] ⟨few,_,_,rfl⟩
 rw[List.map_id']at h4;have e4:aE (rn (n+130)) [] (k+13) (.loop (.nm 5) (.bin .Add (.comp 6 2 (.nm 7) (.dP (.val (.int 6))) none (.call 15 [(.slot 2),(.slot 3)])) (.lst [(.call 13 [(.slot 2)])])) tE) [A0,A1,St s1 fl,.dat (W m aA),a4,a5]=some (.nx,[A0,A1,St s3 fl,.dat (W m aA),b4,b5]):=by simp only[aE,Tg.ix,Tg.jx,hw,h4];simp
 refine⟨St s3 fl,.dat (W m aA),b4,b5,?_⟩;unfold tF;rw[U.b,aB e1,aB e2,aB e3,aB e4];rfl
theorem whole(ns:List Int)(hl:ns.length<=63):∃g',(rn (n+132)).b [] (k+13) Qk.body [.dat (.fix (ns.map .int)),.no,.no,.no,.no,.no]=some (.rt (.dat (.bl true)),g'):=by
 have loop:=ez (T:=.nm 1) (b:=(rn (n+131)).b [] (k+13) tF) (λ(j:Nat)=>D.int (0+(j:Int)))
  (I:=λ(l:List Nat) g=>∃(s1 s2 s3 s4 s5:Slot),g=[.dat (.fix (ns.map .int)),s1,s2,s3,s4,s5])
  (step:=λa l g h=>by
   obtain⟨s1,s2,s3,s4,s5,rfl⟩:=h;rw[Int.zero_add];obtain⟨b2,b3,b4,b5,q⟩:=cell U (n:=n) (k:=k) ns hl a s2 s3 s4 s5;exact⟨_,_,rfl,q,_,_,_,_,_,rfl⟩)
 obtain⟨M,hM,hM2⟩:∃M:Nat,M<=10/\(if ((if (10:Int)<ns.length then 10 else (ns.length:Int))) > 1 then (if (10:Int)<ns.length then 10 else (ns.length:Int))else 1)=(M:Int):=by
  refine⟨(if ((if (10:Int)<ns.length then 10 else (ns.length:Int))) > 1 then (if (10:Int)<ns.length then 10 else (ns.length:Int))else 1).toNat,?_,?_⟩
  . split <;> (try split) <;> lia
  . split <;> (try split) <;> lia
 obtain⟨g2,⟨s1,s2,s3,s4,s5,rfl⟩,h4⟩:=loop (List.range M) [.dat (.fix (ns.map .int)),.no,.no,.no,.no,.no] ⟨_,_,_,_,_,rfl⟩;have hv:fz (rn (n+131)) [] (k+13) (.blt .max [(.val (.int 1)),(.blt .min [(.blt .len [(.slot 0)]),(.val (.int 10))])]) [.dat (.fix (ns.map .int)),.no,.no,.no,.no,.no]=some (.int (M:Int),[.dat (.fix (ns.map .int)),.no,.no,.no,.no,.no]):=by rw[<- hM2];simp! [U,lZ]
 have hw:eY (rn (n+131)) [] (k+13) false (.dP (.blt .max [(.val (.int 1)),(.blt .min [(.blt .len [(.slot 0)]),(.val (.int 10))])])) [.dat (.fix (ns.map .int)),.no,.no,.no,.no,.no]=some ((List.range M).map λ(x:Nat)=>D.int (0+(x:Int)),[.dat (.fix (ns.map .int)),.no,.no,.no,.no,.no]):=by unfold eY;dsimp only;rw[hv];dsimp only;rw[fN (aU M ⋯),A5];rfl
 have e1:aE (rn (n+131)) [] (k+13) (.loop (.nm 1) (.dP (.blt .max [(.val (.int 1)),(.blt .min [(.blt .len [(.slot 0)]),(.val (.int 10))])])) tF) [.dat (.fix (ns.map .int)),.no,.no,.no,.no,.no]=some (.nx,[.dat (.fix (ns.map .int)),s1,s2,s3,s4,s5]):=by simp only[aE,Tg.ix,Tg.jx,hw,h4];simp
 refine⟨[.dat (.fix (ns.map .int)),s1,s2,s3,s4,s5],?_⟩;have q6:=λn k=>qz U (n:=n) (k:=k) (.tup [.int 6,.tup []]) (nV _)
 have q7:=λn k=>qz U (n:=n) (k:=k) (.tup [.int 1,.tup []]) (nV _)
 have w6:bL (.tup [.int 6,.tup []])=true:=rfl;have w7:bL (.tup [.int 1,.tup []])=true:=rfl;rw[w6]at q6;rw[w7]at q7;have Xr:dQ .Is (.bl true) (.bl true)=some true:=rfl;unfold Qk;rw[U.b,aB e1];simp! [U,c2,aH (fx:=bC 1 3 4) rfl,q6,q7,Xr,ak 0 ⋯,ak 2 ⋯]
end
def kk:Nat:=13
def fuel:Nat:=132
theorem hev(ns:List Int)(hl:ns.length<=63):∃g',(run fns fuel).b [] kk Qk.body (dm 6 [.dat (.fix (ns.map .int))])=some (.rt (.dat (.bl true)),g'):=whole (n:=0) (k:=0) (Iq fns) ns hl
end L1
namespace Ev
open L2
def Tz:Value->Bool
 |.str _ _=>true
 |_=>false
def Jd:Value->Bool
 |.int _ _=>true
 |_=>false
def JV:Value->Bool
 |.bool _=>true
 |_=>false
noncomputable def PB(n:String):Value->Bool
 |.type m=>decide (m=n)
 |_=>false
noncomputable def PJ(q:Addr):Option Value->Bool
 |some (.ref p)=>decide (p=q)
 |_=>false
theorem wJ{n:String}{v:Value}(h:PB n v=true):v=.type n:=by
 unfold PB at h;split at h
 . rw[nS h]
 . cases h
theorem Je{q:Addr}{v:Option Value}(h:PJ q v=true):v=some (.ref q):=by
 unfold PJ at h;split at h
 . rw[nS h]
 . cases h
def codeOk(K:Frag)(c q:Addr):Bool:=match K.lookup c with
 |some o=>(match o.data with
  |.fields vs=>PB "code" o.cls&&PJ q vs[11]?&&Tz (vs.getD 18 .none)&&Jd (vs.getD 7 .none)&&JV (vs.getD 9 .none)&&Jd (vs.getD 10 .none)&&decide (c≠q)
  |_=>false)
 |none=>false
theorem yP{K:Frag}{h:Heap}{c q:Addr}(X:K.In h)(e:codeOk K c q=true):PySem.W.CodeHd h c q/\∃o vs,h.get? c=some o/\o.cls=.type "code" /\o.data=.fields vs/\vs[11]?=some (.ref q):=by
 unfold codeOk at e;split at e
 .
  rename_i o ho;split at e
  .
   rename_i vs hv;simp only[eJ,i5]at e;obtain⟨⟨⟨⟨⟨⟨e1,e2⟩,e3⟩,e4⟩,e5⟩,e6⟩,e7⟩:=e;have r:=Je e2;have d:vs.getD 11 .none=.ref q:=by rw[oT,r];rfl
   unfold Tz at e3;split at e3
   .
    rename_i file tf h3;unfold Jd at e4;split at e4
    .
     rename_i fl tg h4;unfold JV at e5;split at e5
     .
      rename_i b h5;unfold Jd at e6;split at e6
      . rename_i tx tt h6;exact⟨⟨o,vs,file,tf,fl,tg,b,tx,tt,X _ _ ho,wJ e1,hv,r,d,h3,h4,h5,h6,e7⟩,o,vs,X _ _ ho,wJ e1,hv,r⟩
      . cases e6
     . cases e5
    . cases e4
   . cases e3
  . cases e
 . cases e
theorem tH{q:Addr}{K:Params->Frag}{w:World}{h:Heap}(e:(K w.params).lookup q=none)(Y:PySem.W.InK (ni q K) w h):(K w.params).In h:=λa o ho=>by
 refine Y a o ?_;show List.lookup a ((q,_)::K w.params)=_;rw[sB];have:(a==q)=false:=by
  by_cases z:a=q
  . rw[z,e]at ho;cases ho
  . simpa using z
 rw[this];exact ho
theorem yQ{c q:Addr}{K:Params->Frag}{w:World}{h:Heap}(e:(K w.params).lookup q=none)(e2:codeOk (K w.params) c q=true)(Y:PySem.W.InK (ni q K) w h):∀p∈[q],(∃c,h.TableAt c p #[])/\(K w.params).lookup p=none:=λp hp=>by
 cases gN.mp hp;refine⟨⟨c,(yP (tH e Y) e2).2,Y _ _ ?_⟩,e⟩;show List.lookup q ((q,_)::K w.params)=_;simp
theorem DW{l:PySem.W.OpenLaw}{n k:Nat}{q:Program}{loose:List Str}{XP:(Str->Option Value)->Heap->Prop}{YP:World->Heap->Prop}{d:DefRec}{K:Params->Frag}{CX:zB}{sp:Frag->Sp}{x:Str}{T:List Addr}
  (hn:l.most=some n) (hn2:n<=sizeLine) (j3:d.params.defaults=[]) (hr:dR k callerA)
  (hY:∀(w:World) (h:Heap),YP w h->(K w.params).In h) (hT:∀(w:World) (h:Heap),YP w h->∀q∈T,(∃c,h.TableAt c q #[])/\(K w.params).lookup q=none)
  (F:∀(w:World) (mg:Str->Option Value) (fa:Addr) (h:Heap),(K w.params).In h->h.Ns mainGlobals mg->mg d.name=some (.ref fa)->
   ∃fd:FuncData,(∀(s:Shared) (u:Value),BindsTo s fd ⟨[u],[]⟩ [(x,u)])/\
    ∀base:Heap,(K w.params).In base->base.Ns mainGlobals mg->mH l.prog w (K w.params) mg base CX k fa fd [x] (sp (K w.params)))
  (P5:∀(w:World) (H:Hp) (a:Addr) (ns:List Int),ns.length<=n->vV T H->bU (K w.params) H a (ns.map V.int)->sp (K w.params) [.ref a] H (λv _=>v=.bl true) λ_ _ _=>False)
  (WM:∀(H:Hp) (s:Shared) (e:Value) (s':Shared),CX [] H s (λ_ _ _=>False) e s'->False) :
  PySem.W.WalkO q loose XP YP l.row.toRowW d [] (λf vs=>PySem.call f vs):=by
 refine XH.qQ hn j3 λw s₀ s₁ mg mb fa o pm cd doc a vs ns G Y ho hd cM hmg hobj hints aF hg=>?_
 have KX:=hY w _ Y;obtain⟨fd,hb,hF⟩:=F w mg fa _ KX G.T.g hmg;exact x6 KX (hT w _ Y) G.T.g G.T.b G.T.builtins G.T.nolimit hg hobj hints (l5 aF hn2) hr hF hb (λH hO hS=>P5 w H a ns aF hO hS) λH e s'=>WM H s₁ e s'
end Ev
namespace L1
open L2 Ev
def f0:Fi:=fU (st 1)
def f1:Fi:=fU (st 2)
def f2:Fi:=fU (st 5)
def f3:Fi:=fU (st 6)
def f4:Fi:=fU (st 7)
def f5:Fi:=fU (st 9)
def f6:Fi:=fU (st 10)
def f7:Fi:=fU (st 11)
def f8:Fi:=fU (st 12)
def f9:Fi:=fU (st 13)
def YM:Fi:=fU (st 14)
def f11:Fi:=fU (st 15)
def YQ:Fi:=fU (st 16)
def YS:Fi:=fU (st 17)
def YT:Fi:=fU (st 18)
def YW:Fi:=fU (st 19)
def Ql:Fi:=fU (st 20)
def ups:List (Str×List (Addr×Bool)):=[]
def P:Pg:=⟨[f0,f1,f2,f3,f4,f5,f6,f7,f8,f9,YM,f11,YQ,YS,YT,YW,Ql],[("MOST_PLACES",.int 6)],["all", "bool", "int", "isinstance", "len", "list", "max", "min", "range", "set", "sorted", "str", "tuple", "zip"],[],false,[], "KindError",ups⟩
theorem PK:Dk P P.fn fns=true:=by decide +kernel
theorem fns_eq:List.zipWith (wB P) P.fn fns=P.fn.map (λfi=>bx fi.st):=by kernel_rfl
theorem Xs:Ql.N.length=6:=rfl
theorem Xu:∀ns:List Int,ns.length<=63->∃g',(run fns fuel).b [] kk Qk.body (dm Ql.N.length [.dat (.fix (ns.map .int))])=some (.rt (.dat (.bl true)),g'):=by rw[Xs];exact hev
theorem Jf(P:Params):dN (K P)=[(nat_lit 116,Nt)]:=by kernel_rfl
theorem DX(P:Params):(K P).lookup (nat_lit 116)=none:=by kernel_rfl
theorem Jg(P:Params):codeOk (K P) (nat_lit 118) (nat_lit 116)=true:=by kernel_rfl
end L1
open PySem PySem.W PyProof.Rows
set_option maxHeartbeats 0 in
theorem PySem.Challenge.cw_websbykind_k01_webs_known_holds : PySem.Challenge.rw_websbykind_k01_webs_known.Holds := by
 w_on
 refine PySem.W.holds_law (by decide +kernel) λsaid=>?_
 refine PySem.W.holds_open (q:=L1.qv) (loose:=[]) (Xt:=λs=>xlAt L1.qv [] s&&recOk (OpenRow.toRowW PySem.Challenge.rw_websbykind_k01_webs_known.row).records s) (XP:=XL L1.qv []) (Yf:=λs=>L1.as2.map s.heap.get?) (Ya:=λw=>(Ev.ni 116 L1.K w.params).map λp:Nat×Obj=>some p.2) (YP:=InK (Ev.ni 116 L1.K)) (N:=8000) L1.hl (InK.of L1.Qn) InK.keeps (λs e=>xl_of s (Bool.and_eq_true_iff.mp e).1) XL.keeps (by rfl) (by rfl) (by rfl) (λs e=>recFacts_of (Bool.and_eq_true_iff.mp e).2) (by rfl) (by first |assumption |decide +kernel) (by decide +kernel) ⟨rfl,rfl,rfl,rfl,rfl,by decide +kernel⟩ ?hw ?hc
 (case hw=>w_witness2)
 k_fill
 refine Ev.DW (l:=PySem.Challenge.rw_websbykind_k01_webs_known) (n:=63) (k:=L1.kk+1) (x:= "_law_script") (CX:=L2.Ec) (K:=L1.K) (T:=[116]) (sp:=λK=>Ev.Mp K L1.Ql.N 1 λbor g r g'=>(Ev.run L1.fns L1.fuel).b bor L1.kk L1.Qk.body g=some (.rt r,g')) rfl ⋯ rfl ⟨rfl,by decide,by decide⟩ (λw h Y=>Ev.tH (L1.DX _) Y) (λw h Y=>Ev.yQ (L1.DX _) (L1.Jg _) Y) ?F ?S ?C
 case F=>
  intro w mg fa h KX G hmg
  have mm:Ev.eu (L2.KOf KX) mg L1.f0/\Ev.eu (L2.KOf KX) mg L1.f1/\Ev.eu (L2.KOf KX) mg L1.f2/\Ev.eu (L2.KOf KX) mg L1.f3/\Ev.eu (L2.KOf KX) mg L1.f4/\Ev.eu (L2.KOf KX) mg L1.f5/\Ev.eu (L2.KOf KX) mg L1.f6/\Ev.eu (L2.KOf KX) mg L1.f7/\Ev.eu (L2.KOf KX) mg L1.f8/\Ev.eu (L2.KOf KX) mg L1.f9/\Ev.eu (L2.KOf KX) mg L1.YM/\Ev.eu (L2.KOf KX) mg L1.f11/\Ev.eu (L2.KOf KX) mg L1.YQ/\Ev.eu (L2.KOf KX) mg L1.YS/\Ev.eu (L2.KOf KX) mg L1.YT/\Ev.eu (L2.KOf KX) mg L1.YW/\Ev.eu (L2.KOf KX) mg L1.Ql:=by
   refine⟨?_,?_,?_,?_,?_,?_,?_,?_,?_,?_,?_,?_,?_,?_,?_,?_,?_⟩ <;> (
    dsimp only[L2.KOf]
    exact Ev.Ti (by assumption) (by assumption) (by k_is) (by k_is) (by k_is) (by k_is) ⟨rfl,rfl,rfl,by decide +kernel,by decide +kernel,by decide +kernel,by decide +kernel⟩ (λ_ _ _ _ _ _ us hl=>by first | (obtain⟨_,e⟩:=Ev.Tj hl;subst e;rfl) | (obtain⟨_,_,e⟩:=Ev.Tn hl;subst e;rfl) | (obtain⟨_,_,_,e⟩:=Ev.Xj hl;subst e;rfl) | (obtain⟨_,_,_,_,e⟩:=Ev.len4 hl;subst e;rfl)) ⋯)
  obtain⟨m0,m1,m2,m3,m4,m5,m6,m7,m8,m9,m10,m11,m12,m13,m14,m15,YX⟩:=mm
  have nh:Ev.Om (L2.KOf KX) mg ("MOST_PLACES",.int 6):=by
   dsimp only[L2.KOf]
   refine' Ev.Oq KX G ?a ⋯
   (case a=>k_is)
  have TF:mg "all"=none:=mg_none_of KX G (by k_is)
  have PL:mg "bool"=none:=mg_none_of KX G (by k_is)
  have TJ:mg "int"=none:=mg_none_of KX G (by k_is)
  have qA:mg "isinstance"=none:=mg_none_of KX G (by k_is)
  have TL:mg "len"=none:=mg_none_of KX G (by k_is)
  have PN:mg "list"=none:=mg_none_of KX G (by k_is)
  have TQ:mg "max"=none:=mg_none_of KX G (by k_is)
  have TV:mg "min"=none:=mg_none_of KX G (by k_is)
  have Jh:mg "range"=none:=mg_none_of KX G (by k_is)
  have TX:mg "set"=none:=mg_none_of KX G (by k_is)
  have DY:mg "sorted"=none:=mg_none_of KX G (by k_is)
  have TY:mg "str"=none:=mg_none_of KX G (by k_is)
  have Ji:mg "tuple"=none:=mg_none_of KX G (by k_is)
  have T3:mg "zip"=none:=mg_none_of KX G (by k_is)
  have lm:Ev.Oo L1.P (L2.KOf KX) mg:=Ev.Ig rfl rfl rfl
  have md:Ev.yx L1.P (L2.KOf KX) mg:=Ev.Tf (.cons m0 (.cons m1 (.cons m2 (.cons m3 (.cons m4 (.cons m5 (.cons m6 (.cons m7 (.cons m8 (.cons m9 (.cons m10 (.cons m11 (.cons m12 (.cons m13 (.cons m14 (.cons m15 (.cons YX .nil))))))))))))))))) (.cons nh .nil) (.cons TF (.cons PL (.cons TJ (.cons qA (.cons TL (.cons PN (.cons TQ (.cons TV (.cons Jh (.cons TX (.cons DY (.cons TY (.cons Ji (.cons T3 .nil)))))))))))))) .nil lm
  exact Ev.Dj (Ev.Ow L1.PK L1.fns_eq) md (i:=16) (fi:=L1.Ql) rfl rfl rfl YX hmg
 case S=>exact λw H a ns hl hO hS=>Ev.Ou L1.Xu (L1.K w.params) H a ns hl (by rw[L1.Jf];exact hO) hS
 case C=>exact λ_ _ _ _ z=>z
