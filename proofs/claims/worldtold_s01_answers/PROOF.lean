import PyProof.Rows.All
import Wide.All
import OpenK.AllK
import Wide.FinOn
import PyProof.EqAt
import PyProof.EqKinds
import PyProof.TupleCall
import KE.BitLaws
import Open.SpecLaws
import KE.OsHead
import KE.OsGo
import KE.KDictLaws
import PyProof.Rows.SortShellAny
import PyProof.InstEq
import PyProof.Rows.SetFrom
import KE.KDictSum
import KE.IntTextLaws
import PySem.Challenge.RW_worldtold_s01_answers
set_option Elab.async false
set_option linter.all false
set_option maxRecDepth 100000
set_option maxHeartbeats 2000000
set_option compiler.extract_closed false
set_option compiler.maxRecInline 0
set_option bootstrap.genMatcherCode false
local macro_rules|`(tactic|nofun)=>let F:=Lean.mkIdent;`(tactic|first|(intro _ _ _ _ _ _ u h;(first|apply $(F `WP.F1) h|apply $(F `WP.F2) h|apply $(F `WP.F3) h|apply $(F `WP.F4) h|apply $(F `WP.F5) h);intros;rfl)|exact .inl rfl|exact .inr rfl|assumption|exact .inr (Or.inl rfl)|exact .inr (Or.inr rfl))
noncomputable section
local macro_rules
|`(⇑0)=>`(by decide)
|`(⇑1)=>`(by omega)
|`(⇑2)=>`(by simp)
|`(⇑3)=>`(by intro B;cases B)
|`(⇑4)=>let X:=Lean.mkIdent `X;`(PySem.wpAny (PySem.model ($X).prog ($X).w) ($X).A)
|`(⇑5)=>let p:=Lean.mkIdent `prog;let w:=Lean.mkIdent `w;let A:=Lean.mkIdent `A;`(PySem.wpAny (PySem.model $p $w) $A)
|`(⇑6)=>`(Vbtaae.numbered 1)
|`(⇑7)=>let a:=Lean.mkIdent;`($(a `Ok) $(a `bI) $(a `bJ) $(a `am) $(a `bK))
|`(⇑$x:ident)=>`($x |>.heap.objs.size)
|`(↥$x)=>`(by simpa using $x)
def be:=@List.length_map
def aL:=@PySem.wpAny_bind
def cu:=@List.mem_cons_of_mem
def ay:=@if_neg
def cA:=@List.map_eq_cons_iff
def c_:=@List.getElem?_eq_some_iff
def cn:=@List.mem_cons_self
def aA:=@if_pos
def bN:=@List.mem_cons
def bU:=@List.map_cons
def dq:=@PySem.Heap.get?_push_of_some
def bq:=@PySem.wpAny_pure
def cX:=@List.length_append
def bG:=@Nat.le_refl
def cJ:=@List.length_cons
def cd:=@List.mem_map
def c5:=@List.length_take
def ez:=@List.getElem?_eq_getElem
def dL:=@List.mem_singleton
def db:=@List.map_append
def cK:=@Nat.le_trans
def dF:=@Bool.and_eq_true
def d5:=@List.getElem?_map
def eo:=@Bool.false_ne_true
def c2:=@PySem.Heap.lt_size
def cQ:=@Nat.zero_le
def eU:=@PySem.Heap.get?_push_size
def dc:=@List.map_nil
def dX:=@List.mem_filter
def dO:=@decide_eq_true
def fk:=@List.size_toArray
def eA:=@decide_eq_false
def gc:=@List.mem_of_getElem?
def eJ:=@List.mem_append
def fG:=@decide_eq_true_eq
def eV:=@Option.some.inj
def eW:=@Bool.eq_iff_iff
def gd:=@List.filterMap_cons
def fy:=@List.take_length
def ge:=@of_decide_eq_true
def er:=@Nat.ne_of_lt
def hR:=@List.length_filter_le
def f1:=@PySem.PassesOwn.never
def jx:=@List.getElem?_append_left
def jy:=@Option.isSome_iff_exists
def hp:=@Nat.lt_of_lt_of_le
def mq:=@List.exists_of_findSome?_eq_some
def d_:=@beq_iff_eq
def g4:=@List.filter_cons
def il:=@Bool.false_eq_true
def im:=@List.pairwise_cons
def hq:=@List.all_eq_true
def i5:=@List.map_eq_nil_iff
def hS:=@List.any_eq_true
def jz:=@List.getElem?_of_mem
def hr:=@List.append_nil
def mr:=@List.getD_eq_getElem?_getD
def iL:=@List.append_assoc
def jA:=@PySem.mem_of_lookup
def g5:=@PySem.Heap.size_push
def kQ:=@List.length_singleton
def oL:=@List.Nodup.length_le_of_subset
def io:=@List.find?_cons
def lv:=@Option.map_eq_some_iff
def kb:=@List.filterMap_nil
def ny:=@List.drop_eq_getElem_cons
def nz:=@Array.getElem?_eq_getElem
def hs:=@PySem.wpAny_holding
def eK:=@PySem.boot_len
def i6:=@List.nodup_cons
def ms:=@PySem.Heap.get?_update_other
def kR:=@Nat.lt_of_le_of_lt
def ht:=@List.map_map
def jB:=@Bool.or_eq_true
def lw:=@List.filter_append
def nA:=@List.contains_iff_mem
def mu:=@List.map_congr_left
def mv:=@List.getD_cons_zero
def kS:=@List.not_mem_nil
def nB:=@PySem.Around.under_plainId
def lx:=@List.length_drop
def jC:=@List.any_cons
def mw:=@PySem.wpAny_setField_rec
def nC:=@Array.length_toList
def nD:=@List.getD_cons_succ
def oM:=@List.take_append_drop
def mx:=@Nat.lt_succ_of_lt
def my:=@List.flatMap_cons
def rg:=@List.getElem?_concat_length
def hu:=@PySem.wpAny_mono
def kc:=@Nat.lt_irrefl
def nE:=@PySem.Calls.spliced_cons
def ly:=@PySem.codeAny_builtin
def oN:=@List.findSome?_cons
def pW:=@List.mem_append_right
def nF:=@Nat.lt_succ_self
def nG:=@List.lookup_cons
def oO:=@PySem.wpAny_Call_Name_kw
def ti:=@List.getElem?_append_right
def rh:=@List.take_of_length_le
def tj:=@List.findSome?_eq_none_iff
def oP:=@Bool.not_eq_true'
def nH:=@PySem.wpAny_call_entry
def pX:=@beq_eq_false_iff_ne
def pY:=@List.length_pos_iff
def oQ:=@Option.map_some
def lz:=@PySem.plainId_quiet
def oR:=@PySem.wpAny_truthy_bool
def ri:=@List.eq_nil_or_concat
def oS:=@List.cons_ne_nil
def rj:=@List.mem_append_left
def rk:=@PySem.Heap.get?_update_self
def rl:=@Nat.mul_le_mul_right
def pZ:=@Option.isSome_map
def p0:=@List.pairwise_map
def wr:=@PySem.F.slot_dict_setdefault
def ip:=@if_false
def tl:=@Option.map_eq_none_iff
def p1:=@PySem.wpAny_pyIter_list
def p2:=@PySem.Calls.spliced_nil
def tm:=@PySem.wpAny_callSpecial?_slot
def tn:=@Array.getElem?_toList
def to:=@PySem.Calls.callWith_builtin
def wt:=@List.mem_of_find?_eq_some
def p3:=@List.length_set
def p4:=@List.length_nil
def p5:=@Nat.not_lt_zero
def nI:=@Nat.le_of_lt
def mz:=@Nat.le_succ
def rm:=@PySem.tupleKind_room_in1
def tq:=@List.pairwise_append
def rn:=@List.findIdx_cons
def oT:=@List.sum_cons
def iq:=@if_true
def tr:=@List.flatMap_append
def wu:=@List.getElem?_cons_succ
def ro:=@List.mem_flatMap
def zv:=@PySem.F.args_dict_setdefault_3
def wv:=@PySem.F.plainAttrs_list
def lA:=@PySem.wpAny_rule
def zw:=@PySem.F.entry_dict_setdefault
def wx:=@List.getElem?_set_self
def oU:=@Nat.lt_trans
def ts:=@List.getElem?_take
def p6:=@PySem.wpAny_tryCatch
def rp:=@Nat.min_eq_left
def rq:=@PySem.F.plain_min_loop
def wy:=@List.getElem?_eq_none
def wz:=@PySem.F.slot_dict_get
def wA:=@List.concat_eq_append
def i7:=@Ne.symm
def tt:=@bne_self_eq_false
def oV:=@PySem.codeAny_mono
def rr:=@PySem.wpAny_passesOwn
def kT:=@or_false
def wB:=@List.length_eraseIdx
def zx:=@List.findSome?_eq_some_iff
def p7:=@Nat.ne_of_gt
def tu:=@List.cons_append
def tv:=@Bool.not_eq_true
def tw:=@List.getElem_mem
def tx:=@PySem.wpAny_newObj_type
def tz:=@PySem.wpAny_setState_of
def wC:=@List.getElem_of_mem
def wD:=@PySem.Calls.evalArgs_plain
def zy:=@List.Pairwise.imp_of_mem
def rs:=@Bool.true_and
def wE:=@PySem.codeAny_call_builtin
def tA:=@List.foldl_cons
def zz:=@Option.map_none
def wF:=@PySem.Heap.SameBut.update
def wG:=@PySem.wpAny_setEntries_of
def rt:=@List.any_map
def ru:=@List.all_map
def zA:=@Array.getElem?_eq_none
def tB:=@Option.none_or
def tC:=@Option.or_none
def zB:=@List.findSome?_append
def Dz:=@PySem.F.slot_list_getattribute
def wH:=@Nat.le_add_right
def tD:=@List.all_cons
def zC:=@List.getElem?_set_ne
def rv:=@PySem.call_meetsIn
def tE:=@PySem.wpAny_seqItems
def zD:=@List.length_dropLast
def nJ:=@LawfulBEq.eq_of_beq
def wI:=@List.nil_append
def wJ:=@List.find?_some
def zE:=@PySem.F.slot_enumerate_next
def DA:=@PyProof.Rows.callWith_type1
def p8:=@PySem.call_meets
def wK:=@PySem.wpAny_askSetting
def tF:=@PySem.Paired.length
def tG:=@PySem.wpAny_attempt
def zF:=@List.mem_filterMap
def wL:=@List.nodup_nil
def wM:=@List.drop_zero
def wN:=@List.take_zero
def zG:=@List.find?_eq_none
def rx:=@bne_iff_ne
def zH:=@List.filter_filter
def DB:=@Classical.byContradiction
def wO:=@PySem.wpAny_updateSeq
def wP:=@PySem.wpAny_ite_split
def zI:=@Nat.le_of_succ_le
def zJ:=@List.nodup_append
def tH:=@Nat.add_mul
def tI:=@PySem.F.called_set
def wQ:=@List.map_take
def wR:=@PySem.W.mg_of
def ry:=@PySem.typeIs_str
def DC:=@PySem.F.args_dict_get_3
def DD:=@PySem.F.plainAttrs_dict
def DE:=@decide_eq_false_iff_not
def DF:=@PySem.F.slot_list_index
def wS:=@Nat.le_of_eq
def DG:=@List.range_succ_eq_map
def DH:=@PySem.F.entry_dict_get
def DI:=@List.pairwise_lt_range
def zK:=@PySem.atKey_none_of_get
def tJ:=@PySem.wpAny_of_eq
def tK:=@PySem.wpAny_field
def DJ:=@List.mem_iff_getElem?
def zL:=@Bool.false_and
def zM:=@PySem.F.slot_str_split
def wT:=@List.map_id
def zN:=@PySem.wpAny_isInstance
def DK:=@List.dropLast_concat
def DL:=@List.getLastD_concat
def DM:=@PySem.W.plainGet_of
def tL:=@PySem.wpAny_call
def DN:=@ne_true_of_eq_false
def zO:=@PySem.wpAny_execs_nil
def zP:=@PySem.pushCells_keeps
def zQ:=@Bool.or_false
def DO:=@PySem.W.callWith_K
def wU:=@Nat.not_lt
def DP:=@List.any_eq_false
def zR:=@Nat.zero_add
def zS:=@Nat.add_comm
def DQ:=@List.find?_append
def DR:=@List.getLast?_map
def wV:=@PySem.wpAny_letGo
def DS:=@List.ext_getElem?
def zT:=@List.map_set
def DT:=@PyProof.Rows.F.plain_set_update_loop
def Nq:=@PyProof.Rows.callWith_builtin1
def DU:=@Option.getD_none
def DV:=@Nat.succ_le_succ
def DW:=@List.isEmpty_iff
def DX:=@beq_self_eq_true
def DY:=@List.map_flatMap
def zU:=@PySem.wpAny_standAt
def Nr:=@List.getLast?_eq_some_getLast
def DZ:=@List.of_mem_zip
def D0:=@PySem.F.args_str_split_2
def Nt:=@PySem.W.length_le_weightAllW
def D1:=@List.all_append
def D2:=@PySem.F.slot_NoneType_eq
def D3:=@Bool.and_false
def D4:=@PySem.wpAny_Call_method
def zV:=@PySem.wpAny_typeOf
def D5:=@List.drop_drop
def D6:=@PySem.F.entry_str_split
def D7:=@Option.map_map
def D8:=@List.Perm.refl
def D9:=@List.take_succ
def Nu:=@PySem.F.slot_dict_getitem
def Nv:=@PySem.F.plain_extend_loop
def Nw:=@List.getElem?_zip_eq_some
def Nx:=@List.mem_or_eq_of_mem_set
def Ny:=@List.getElem?_take_of_lt
def D_:=@List.map_drop
def D':=@PySem.F.entry_min_loop
def zW:=@PySem.sizeLine_eq
def Nz:=@List.pairwise_of_forall
def NA:=@Nat.toDigits_of_lt_base
def NB:=@List.length_eq_zero_iff
def NC:=@PySem.F.plain_list_iadd
def ND:=@PySem.F.type_list_index
def NE:=@Option.bind_eq_some_iff
def NF:=@PySem.W.cellsFrom_some
def Ea:=@PySem.codeAny_of_tree
def NG:=@List.Perm.pairwise_iff
def NH:=@List.filterMap_eq_map'
def NI:=@PySem.StrLaws.subAt_eq
def Eb:=@Nat.mul_comm
def NJ:=@List.drop_eq_nil_of_le
def NK:=@PySem.W.methodCall_KW
def NL:=@PySem.F.type_dict_get
def NM:=@Bool.and_eq_false_iff
def NN:=@List.dropLast_eq_take
def NO:=@PySem.Calls.Name_function_global
def zX:=@PySem.wpAny_load
def zY:=@PySem.Walks.list
def NP:=@Bool.and_eq_true_iff
def NQ:=@List.reverse_reverse
def NR:=@List.Pairwise.filter
def Ec:=@PySem.isSubtype_stop
def Ed:=@PySem.isSubtype_type
def Ee:=@PySem.wpAny_fieldsOf
def NS:=@List.mem_of_mem_take
def NT:=@PySem.W.callWith_K0
def NU:=@List.take_succ_cons
def NV:=@List.toList_toArray
def NW:=@Nat.add_le_add_left
def NX:=@List.takeWhile_cons
def NY:=@List.filter_flatMap
def NZ:=@Int.toNat_of_nonneg
def N0:=@PySem.F.slot_list_append
def N1:=@PySem.F.slot_list_extend
def N2:=@Option.isSome_some
def Ef:=@Nat.mod_lt
def N3:=@List.map_findSome?
def N4:=@Nat.lt_of_le_of_ne
def N5:=@List.take_sublist
def N6:=@Int.toNat_natCast
def N7:=@List.foldl_append
def N8:=@List.reverse_cons
def N9:=@List.head?_append
def N_:=@PySem.F.args_enumerate_next_1
def N':=@Array.toList_push
def Oa:=@Nat.le_succ_of_le
def Ob:=@PySem.wpAny_pyNext_list_item
def Oc:=@Nat.min_le_right
def Eg:=@PySem.seqIndex_neg
def Od:=@PySem.meets_dict_get_default
def Oe:=@Array.toList_inj
def Of:=@Nat.min_eq_right
def Og:=@PySem.F.entry_enumerate_next
def Oh:=@Nat.succ_ne_self
def Oi:=@List.flatMap_nil
def Oj:=@PySem.wpAny_isTrue_Compare1
def Ol:=@PySem.wpAny_pyNext_list_end
def Om:=@PySem.F.slot_list_pop
def Oo:=@PySem.wpAny_notOrdered_dict
def Op:=@PySem.weight_type_call_type
def Oq:=@PySem.builtinLookup_eq_fast
def z.{u} {bO : Sort u} {a : bO} : a = a := rfl
def Wp:0<=PySem.sizeLine:=by decide
def dY:1<=PySem.sizeLine:=by decide
def hv:2<=PySem.sizeLine:=by decide
def i8:3<=PySem.sizeLine:=by decide
open PySem.W (Frag)
local macro_rules|`(tactic|wp_step)=>`(tactic|first|with_reducible(first|refine bq ?_|refine aL ?_|refine PySem.wpAny_holding ?_|refine PySem.wpAny_standAt ?_|refine PySem.wpAny_point ?_|refine PySem.wpAny_rule ?_|refine PySem.wpAny_letGo ?_|refine PySem.wpAny_mkInt' ?_|(refine PySem.wpAny_mkStr' ?_ ?_;rotate_left;focus(size_fits;done))|refine PySem.wpAny_fresh' ?_|refine PySem.wpAny_alloc' ?_|refine PySem.wpAny_attempt ?_|refine PySem.wpAny_throw ?_|refine PySem.wpAny_of_eq (by assumption) ?_|refine PySem.wpAny_typeOf (by assumption) ?_|refine PySem.wpAny_specialOf_val (by assumption) (by assumption) ?_|refine PySem.wpAny_specialOf (by assumption) (by assumption) ?_|refine PySem.wpAny_isInstance_val (by assumption) (by assumption) ?_|refine PySem.wpAny_isInstance (by assumption) (by assumption) ?_|refine PySem.wpAny_call ?_|refine PySem.wpAny_runValue ?_)|((with_reducible refine PySem.wpAny_load' ?_ ?_);focus(heap_get;done))|((with_reducible refine PySem.wpAny_loadPart' ?_ ?_);focus(heap_get;done))|((with_reducible refine PySem.wpAny_handled_none ?_ ?_);focus(assumption;done))|((with_reducible refine PySem.wpAny_ite_false ?_ ?_);focus(rfl;done))|((with_reducible refine PySem.wpAny_ite_true ?_ ?_);focus(rfl;done))|((with_reducible refine PySem.wpAny_ite_false ?_ ?_);focus(simp[*];done))|((with_reducible refine PySem.wpAny_ite_true ?_ ?_);focus(simp[*];done))|wp_delta)
section
local macro_rules|`(tactic|omega)=>`(tactic|first|lia|omega +splitNatSub)
section
namespace ef
open PySem PySem.Spec PyProof.Rows
abbrev Key:=Sum Int Str
def gR:Key->Value->Bool
 |.inl k,v=>Value.isInt k v
 |.inr x,v=>Value.isStrOf x v
def Wq (w:World):Key->Int
 |.inl k=>hashInt k
 |.inr x=>hashStr w x
theorem kd:∀{k:Key}{v:Value},gR k v=true->(∃i t,k=Sum.inl i/\v=Value.int i t)\/(∃x t,k=Sum.inr x/\v=Value.str x t)
 |.inl i,v,h=>by obtain⟨t,e⟩:=Value.isInt_shape (k:=i) (v:=v) h;exact .inl ⟨i,t,z,e⟩
 |.inr x,v,h=>by obtain⟨t,e⟩:=Value.isStrOf_shape (x:=x) (v:=v) h;exact .inr ⟨x,t,z,e⟩
def Ot (i)(t):gR (.inl i) (.int i t)=true:=by simp[gR,Value.isInt]
def Wr (x)(t):gR (.inr x) (.str x t)=true:=by simp[gR,Value.isStrOf]
def Ws (a b):decide ((Sum.inl a:Key)=Sum.inl b)=(a==b):=by
 by_cases e:a=b;·subst e;simp
 ·have h:¬(Sum.inl a:Key)=Sum.inl b:=λ q=>e (Sum.inl.inj q);rw[eA h];exact(pX.mpr e).symm
def Wt (a b):decide ((Sum.inr a:Key)=Sum.inr b)=decide (a=b):=by
 by_cases e:a=b;·subst e;simp
 ·have h:¬(Sum.inr a:Key)=Sum.inr b:=λ q=>e (Sum.inr.inj q);rw[eA h,eA e]
def Wu (a)(b):decide ((Sum.inl a:Key)=Sum.inr b)=false:=eA (λ q=>nomatch q)
def Wv (a)(b):decide ((Sum.inr a:Key)=Sum.inl b)=false:=eA (λ q=>nomatch q)
def dT (prog:Program)(w:World):PySem.KeyKind prog w Key where
 is:=gR
 hash:=Wq w
 inj:=λ v a b az Y=>by
  rcases kd az with⟨i,t,rfl,rfl⟩|⟨x,t,rfl,rfl⟩
  ·rcases kd Y with⟨j,u,rfl,e⟩|⟨y,u,rfl,e⟩
   ·injection e with ap _;rw[ap]
   ·exact nomatch e
  ·rcases kd Y with⟨j,u,rfl,e⟩|⟨y,u,rfl,e⟩
   ·exact nomatch e
   ·injection e with ap _;rw[ap]
 byValue:=λ k v h=>by rcases kd h with⟨i,t,rfl,rfl⟩|⟨x,t,rfl,rfl⟩<;>rfl
 pyHash:=λ ba h=>by
  rcases kd ba with⟨i,t,rfl,rfl⟩|⟨x,t,rfl,rfl⟩;·exact wpAny_pyHash_int h
  ·exact wpAny_pyHash_str h
 eqBool:=λ a1 ba h=>by
  rcases kd a1 with⟨i,t,rfl,rfl⟩|⟨x,t,rfl,rfl⟩
  ·rcases kd ba with⟨j,u,rfl,rfl⟩|⟨y,u,rfl,rfl⟩
   ·rw[Ws] at h;exact wpAny_eqBool_int h
   ·rw[Wu] at h;exact SeqAt.EqAt.int_str i t y u _ _ _ _ h
  ·rcases kd ba with⟨j,u,rfl,rfl⟩|⟨y,u,rfl,rfl⟩
   ·rw[Wv] at h;exact SeqAt.EqAt.str_int x t j u _ _ _ _ h
   ·rw[Wt] at h;exact wpAny_eqBool_str h
 «strs»:=λ k x t v h=>by
  rcases kd h with⟨i,u,rfl,e⟩|⟨y,u,rfl,e⟩;·exact nomatch e
  ·injection e with ap _;subst ap;cases v<;>rfl
def Ou (prog)(w)(k)(v):(dT prog w).is k v=gR k v:=rfl
def Ww (prog)(w)(i)(t):(dT prog w).is (.inl i) (.int i t)=true:=Ot i t
def Wx (prog)(w)(x)(t):(dT prog w).is (.inr x) (.str x t)=true:=Wr x t
inductive V where
 |b6|bg (b:Bool)|int (i:Int)|str (x:Str)|iM (b:Array UInt8)|wW (b:UInt64)|ref (a:Addr)|ty (n:String)
 deriving DecidableEq
def RelV:V->Value->Prop
 |.b6,u=>u=Value.none
 |.bg b,u=>u=Value.bool b
 |.int i,u=>∃t,u=Value.int i t
 |.str x,u=>∃t,u=Value.str x t
 |.iM b,u=>∃t,u=Value.bytes b t
 |.wW b,u=>∃t,u=Value.float b t
 |.ref a,u=>u=Value.ref a
 |.ty n,u=>u=Value.type n
abbrev Vals:List V->List Value->Prop:=Paired RelV
def Vals.length (r:Vals xs us):xs.length=us.length:=tF r
theorem Vals.get:∀{xs:List V}{us:List Value}{i:Nat}{x:V},Vals xs us->xs[i]?=some x->∃u,us[i]?=some u/\RelV x u
 |_,_,_,_,.nil,e=>by simp at e
 |_,_,0,_,.cons r _,e=>by simp at e;subst e;exact⟨_,z,r⟩
 |_,_,i+1,x,.cons _ t,e=>by obtain⟨u,D,G⟩:=Vals.get (i:=i) (x:=x) t ↥e;exact⟨u,↥D,G⟩
theorem Vals.set (r:RelV x u):∀{xs:List V}{us:List Value}(i:Nat),Vals xs us->Vals (xs.set i x) (us.set i u)
 |_,_,_,.nil=>.nil
 |_,_,0,.cons _ t=>.cons r t
 |_,_,i+1,.cons q t=>.cons q (Vals.set r i t)
theorem Vals.append:∀{xs ys:List V}{us ws:List Value},Vals xs us->Vals ys ws->Vals (xs++ys) (us++ws)
 |_,_,_,_,.nil,s=>s
 |_,_,_,_,.cons r t,s=>.cons r (Vals.append t s)
theorem Vals.take:∀{xs:List V}{us:List Value}(n:Nat),Vals xs us->Vals (xs.take n) (us.take n)
 |_,_,0,_=>.nil
 |_,_,_+1,.nil=>.nil
 |_,_,n+1,.cons r t=>.cons r (Vals.take n t)
theorem Vals.drop:∀{xs:List V}{us:List Value}(n:Nat),Vals xs us->Vals (xs.drop n) (us.drop n)
 |_,_,0,r=>r
 |_,_,_+1,.nil=>.nil
 |_,_,n+1,.cons _ t=>Vals.drop n t
def gC:Option V->Option Value->Prop
 |some v,some u=>RelV v u
 |none,none=>True
 |_,_=>False
def e6 {eB:Type}:List (eB×V)->List (eB×Value)->Prop:=Paired λ(p:eB×V)(q:eB×Value)=>p.1=q.1/\RelV p.2 q.2
def c0:Key->V
 |.inl i=>.int i
 |.inr x=>.str x
inductive gn where
 |lst (xs:List V)
 |tup (xs:List V)
 |cT (aw:List (Key×V))|e7 (aw:List (List Key×V))
 |set (S:Int->Bool) (n:Nat)
 |ins (C dx:Addr) (bT:List (Str×V))
 |own (x:Addr)
 |Eh (bT:List (Str×V))
 |met (f x:Addr)
 |Ei (lo aj:Int)
 |hT (o:Obj) (u:gn)
 |rz (ps:Array Value)
 |ext (tM:Heap->Prop)
abbrev aP:=Addr->Option gn
def upd (H:aP)(a:Addr)(o:gn):aP:=λ b=>if b=a then some o else H b
def aI:upd H a o a=some o:=by unfold upd;rw[aA z]
def dv (h:b≠a):upd H a o b=H b:=by unfold upd;rw[ay h]
def wX:upd (upd H a o) a u=upd H a u:=by funext b;unfold upd;split<;>rfl
def cw {H:aP}(h:H a=some o)(h':H b=some u)(d:o≠u):a≠b:=by intro e;subst e;rw[h] at h';exact d (eV h')
def cy {H:aP}(h:H a=some o)(h':H b=none):a≠b:=by intro e;subst e;rw[h] at h';cases h'
section
variable(P:Program)(w:World)
def e8 (H:aP)(h:Heap)(a:Addr):gn->Prop
 |.lst xs=>xs.length<=sizeLine/\∃(aR:List Value)(n:Nat),Vals xs aR/\h.get? a=some {cls:=.type "list",data:=.seq aR.toArray n}
 |.tup xs=>xs.length<=sizeLine/\∃aR:List Value,Vals xs aR/\IsTup h a aR.toArray
 |.cT aw=>aw.length<=sizeLine/\(a==sysModules)=false/\∃vs,e6 aw vs/\h.DictOf (dT P w) a vs
 |.e7 aw=>aw.length<=sizeLine/\(a==sysModules)=false/\∃xs:List (List Key×Addr×Value),
   Paired (λ(p:List Key×V)(q:List Key×Addr×Value)=>p.1=q.1/\H q.2.1=some (.tup (p.1.map c0))/\RelV p.2 q.2.2) aw xs/\
   ∃o ae ep,h.get? a=some o/\o.ExactDict/\o.data=.dict ae ep/\ae.toList=xs.map (entryOfKey (tupleKind (dT P w)))/\(xs.map (·.1)).Nodup
 |.set S n=>h.SetOf (intKind P w) a S n
 |.ins C dx bT=>H dx=some (.own a)/\bT.length<=1000/\dx≠a/\h.get? a=some (PySem.W.instObj C dx)/\
   ∃eC,h.Ns1 dx eC/\(∀f,gC (bT.lookup f) (eC f))/\PySem.Within eC (bT.map (·.1))
 |.own _=>∃o,h.get? a=some o
 |.Eh bT=>∃eC,h.Ns1 a eC/\∀f,gC (bT.lookup f) (eC f)
 |.Ei lo aj=>∃t u v,h.get? a=some {cls:=.type "range",data:=.fields #[.int lo t,.int aj u,.int 1 v]}
 |.hT o u=>h.get? a=some o/\e8 H h a u
 |.rz ps=>h.get? a=some {cls:=.none,data:=.fields ps}
 |.met f x=>h.get? a=some (PySem.W.methodObj (.ref f) (.ref x))
 |.ext tM=>tM h/\(∃o,h.get? a=some o)/\∀D G:Heap,tM D->(∀o,D.get? a=some o->G.get? a=some o)->tM G
def eD (H:aP)(h:Heap):Prop:=∀a o,H a=some o->e8 P w H h a o
end
section
variable{P:Program}{w:World}{H J:aP}{h h':Heap}{a:Addr}{o:gn}
def e8.lt (x:e8 P w H h a o):a<h.objs.size:=by
 cases o with
 |lst xs=>obtain⟨_,_,_,_,e⟩:=x;exact c2 e
 |tup xs=>obtain⟨_,_,_,p⟩:=x;exact p.lt
 |cT aw=>obtain⟨_,_,_,_,o,_,_,e,_⟩:=x;exact c2 e
 |e7 aw=>obtain⟨_,_,_,_,o,_,_,e,_⟩:=x;exact c2 e
 |set S n=>obtain⟨o,_,_,_,e,_⟩:=x;exact c2 e
 |ins C dx bT=>obtain⟨_,_,_,e,_⟩:=x;exact c2 e
 |own y=>obtain⟨_,e⟩:=x;exact c2 e
 |Eh bT=>obtain⟨_,⟨_,_,_,e,_⟩,_⟩:=x;exact c2 e
 |Ei lo aj=>obtain⟨_,_,_,e⟩:=x;exact c2 e
 |hT ob u=>obtain⟨e,_⟩:=x;exact c2 e
 |rz ps=>exact c2 (show h.get? a=some _ from x)
 |met f y=>exact c2 (show h.get? a=some _ from x)
 |ext tM=>obtain⟨_,⟨_,e⟩,_⟩:=x;exact c2 e
theorem Paired.Ej:∀{l₁:List bO}{Ov:List fH},Paired F l₁ Ov->(∀a b,F a b->a2 a b)->Paired a2 l₁ Ov
 |_,_,.nil,_=>.nil
 |_,_,.cons r t,f=>.cons (f _ _ r) (Paired.Ej t f)
def e8.rA (x:e8 P w H h a o)(k:∀b u,(b=a\/H b=some (.own a))->h.get? b=some u->h'.get? b=some u)
  (aT:∀b,H b=some (.own a)->J b=some (.own a)) (a_:∀b xs,H b=some (.tup xs)->J b=some (.tup xs)):e8 P w J h' a o:=by
 induction o with
 |lst xs=>obtain⟨B,aR,n,r,e⟩:=x;exact⟨B,aR,n,r,k _ _ (.inl z) e⟩
 |tup xs=>obtain⟨B,aR,r,ob,e,c⟩:=x;exact⟨B,aR,r,ob,k _ _ (.inl z) e,c⟩
 |cT aw=>obtain⟨B,y,vs,r,ob,ae,ep,e,c⟩:=x;exact⟨B,y,vs,r,ob,ae,ep,k _ _ (.inl z) e,c⟩
 |e7 aw=>obtain⟨B,y,xs,r,ob,ae,ep,e,c⟩:=x;exact⟨B,y,xs,Paired.Ej r λ p q B=>⟨B.1,a_ _ _ B.2.1,B.2.2⟩,ob,ae,ep,k _ _ (.inl z) e,c⟩
 |set S n=>obtain⟨ob,ae,ep,t,e,c⟩:=x;exact⟨ob,ae,ep,t,k _ _ (.inl z) e,c⟩
 |ins C dx bT=>obtain⟨d,B,ne,e,eC,⟨e9,ae,ep,ao,c⟩,r⟩:=x;exact⟨aT _ d,B,ne,k _ _ (.inl z) e,eC,⟨e9,ae,ep,k _ _ (.inr d) ao,c⟩,r⟩
 |own y=>obtain⟨ob,e⟩:=x;exact⟨ob,k _ _ (.inl z) e⟩
 |Eh bT=>obtain⟨eC,⟨e9,ae,ep,e,c⟩,r⟩:=x;exact⟨eC,⟨e9,ae,ep,k _ _ (.inl z) e,c⟩,r⟩
 |Ei lo aj=>obtain⟨t,u,v,e⟩:=x;exact⟨t,u,v,k _ _ (.inl z) e⟩
 |hT ob u ih=>obtain⟨e,q⟩:=x;exact⟨k _ _ (.inl z) e,ih q⟩
 |rz ps=>have e:=x;exact k a _ (.inl z) e
 |met f y=>have e:=x;exact k a _ (.inl z) e
 |ext tM=>obtain⟨p,⟨o,e⟩,st⟩:=x;exact⟨st _ _ p λ o q=>k _ _ (.inl z) q,⟨o,k _ _ (.inl z) e⟩,st⟩
def eD.lt (x:eD P w H h)(e:H a=some o):a<h.objs.size:=(x a o e).lt
def eD.fresh (x:eD P w H h)(e:h.objs.size<=a):H a=none:=by
 cases q:H a with
 |none=>rfl
 |some u=>exact absurd (hp (x.lt q) e) (kc _)
def eD.kept (x:eD P w H h)(k:∀b u,h.get? b=some u->h'.get? b=some u):eD P w H h':=λ a o e=>(x a o e).rA (λ b u _ q=>k b u q) (λ _ q=>q) λ _ _ q=>q
def eD.laid (x:eD P w H h)(k:∀b u,h.get? b=some u->h'.get? b=some u)(ar:h.objs.size<=a)(new:e8 P w (upd H a o) h' a o):eD P w (upd H a o) h':=λ b u e=>by
 have aB:=x.fresh ar;by_cases Y:b=a;·subst Y;rw[aI] at e;cases e;exact new
 ·rw[dv Y] at e;exact(x b u e).rA (λ c v _ q=>k c v q) (λ c q=>by rw[dv (cy q aB)];exact q) λ c _ q=>by rw[dv (cy q aB)];exact q
end
def mA (H:aP)(a:Addr)(u:gn):Prop:=H a=some u\/∃o,H a=some (.hT o u)
def mA.ok (r:mA H a u)(x:eD P w H h):e8 P w H h a u:=by
 rcases r with r|⟨o,r⟩;·exact x a u r
 ·obtain⟨_,q⟩:=x a _ r;exact q
def wY:Option gn->Prop
 |some (.lst _)=>True
 |some (.cT _)=>True
 |some (.e7 _)=>True
 |some (.set _ _)=>True
 |some (.ins _ _ _)=>True
 |some (.ext _)=>True
 |_=>False
section
variable{P:Program}{w:World}{H:aP}{h h':Heap}{x e:Addr}{fz:gn}
def eD.write (ok:eD P w H h)(ke:wY (H x))(a3:e=x\/H e=some (.own x))(k:∀b u,b≠e->h.get? b=some u->h'.get? b=some u)(tN:∃u,h'.get? e=some u)
  (new:e8 P w (upd H x fz) h' x fz):eD P w (upd H x fz) h':=λ b u q=>by
 have Ow:∀c y,H c=some (.own y)->c≠x:=λ c y r B=>by subst B;rw[r] at ke;exact ke
 have Wy:∀c xs,H c=some (.tup xs)->c≠x:=λ c xs r B=>by subst B;rw[r] at ke;exact ke
 by_cases Y:b=x;·subst Y;rw[aI] at q;cases q;exact new
 ·rw[dv Y] at q;by_cases rB:b=e
  ·have eL:H b=some (.own x):=by
    rcases a3 with B|B;·exact absurd (rB.trans B) Y
    ·rw[rB];exact B
   rw[q] at eL;cases eL;obtain⟨v,ba⟩:=tN;exact⟨v,by rw[rB];exact ba⟩
  ·refine(ok b u q).rA (λ c v ak r=>k c v ?_ r) (λ c r=>by rw[dv (Ow c b r)];exact r) λ c xs r=>by rw[dv (Wy c xs r)];exact r
   rcases ak with rfl|ak;·exact rB
   ·rintro rfl;rcases a3 with B|B
    ·exact Ow c b ak B
    ·rw[ak] at B;cases B;exact Y z
end
structure gp (bT ex:List Addr)(H J:aP)(h h':Heap):Prop where
 keep:∀b o,h.get? b=some o->H b=none->b∉bT->b∉ex->h'.get? b=some o
 slot:∀b o,h.get? b=some o->H b=none->b∈bT->b∉ex->∃sl,h'.get? b=some {o with slots:=sl}
 free:∀b o,h.get? b=some o->H b=none->b∉ex->J b=none
 there:∀b o,h.get? b=some o->b∉ex->∃fz,h'.get? b=some fz
 oW:∀b xs,H b=some (.tup xs)->J b=some (.tup xs)
 nK:∀b o u,H b=some (.hT o u)->J b=some (.hT o u)
 oX:∀b ps,H b=some (.rz ps)->∃more,J b=some (.rz (ps++more))
section
variable{bT Wz ex akX:List Addr}{H H1 aE:aP}{h D G h':Heap}{a x e:Addr}{o:gn}
def gp.any (u:gp bT ex H H1 h D)(q:h.get? b=some ob)(n:H b=none)(aa:b∉ex):∃sl,D.get? b=some {ob with slots:=sl}:=by
 by_cases Y:b∈bT;·exact u.slot b ob q n Y aa
 ·exact⟨ob.slots,u.keep b ob q n Y aa⟩
def gp.kept (k:∀b u,h.get? b=some u->h'.get? b=some u):gp bT ex H H h h':=⟨λ b ob q _ _ _=>k b ob q,λ b ob q _ _ _=>⟨ob.slots,k b ob q⟩,λ _ _ _ n _=>n,λ b ob q _=>⟨ob,k b ob q⟩,λ _ _ q=>q,λ _ _ _ q=>q,λ _ _ q=>⟨#[],by rw[q];simp⟩⟩
def gp.refl:gp bT ex H H h h:=gp.kept λ _ _ q=>q
def gp.laid (k:∀b u,h.get? b=some u->h'.get? b=some u)(ar:h.objs.size<=a)(aB:H a=none):gp bT ex H (upd H a o) h h' where
 keep:=λ b u q _ _ _=>k b u q
 slot:=λ b u q _ _ _=>⟨u.slots,k b u q⟩
 free:=λ b u q n _=>by rw[dv (er (hp (c2 q) ar))];exact n
 there:=λ b u q _=>⟨u,k b u q⟩
 oW:=λ b xs q=>by rw[dv (cy q aB)];exact q
 nK:=λ b u xs q=>by rw[dv (cy q aB)];exact q
 oX:=λ b _ q=>⟨#[],by rw[dv (cy q aB),q];simp⟩
def gp.write (ke:wY (H x))(a3:e=x\/H e=some (.own x))(k:∀b u,b≠e->h.get? b=some u->h'.get? b=some u)(tN:∃u,h'.get? e=some u):gp bT ex H (upd H x o) h h':=by
 have aa:∀b,H b=none->b≠x:=λ b n B=>by subst B;rw[n] at ke;exact ke
 have Y:∀b,H b=none->b≠e:=λ b n B=>by
  subst B;rcases a3 with r|r
  ·exact aa b n r
  ·rw[n] at r;cases r
 have hm:∀b u,H b=some u->¬wY (some u)->b≠x:=λ b u q zZ B=>by subst B;rw[q] at ke;exact zZ ke
 refine⟨λ b u q n _ _=>k b u (Y b n) q,λ b u q n _ _=>⟨u.slots,k b u (Y b n) q⟩,λ b u q n _=>by rw[dv (aa b n)];exact n,λ b u q _=>?_,
  λ b xs q=>by rw[dv (hm b _ q λ B=>B)];exact q,λ b u xs q=>by rw[dv (hm b _ q λ B=>B)];exact q,λ b _ q=>⟨#[],by rw[dv (hm b _ q λ B=>B),q];simp⟩⟩
 by_cases rB:b=e;·subst rB;exact tN
 ·exact⟨u,k b u rB q⟩
end
def z0 (h:Heap)(H:aP):List Addr:=(List.range h.objs.size).filter λ a=>(H a).isSome
def oY (h:Heap)(H:aP):Heap:=PySem.W.hideAll h (z0 h H)
def WA (h)(H):(oY h H).objs.size=h.objs.size:=PySem.W.hideAll_size _ _
def WB (e:h.get? b=some o)(n:H b=none):(oY h H).get? b=some o:=
 PySem.W.hideAll_get _ e λ hm=>by have q:=(dX.mp hm).2;rw[n] at q;simp at q
def WC (e:(oY h H).get? b=some o):h.get? b=some o/\H b=none:=by
 have bW:=PySem.W.of_hideAll (z0 h H) e;refine⟨bW,?_⟩;cases q:H b with
 |none=>rfl
 |some x=>have hm:b∈z0 h H:=dX.mpr ⟨List.mem_range.mpr (c2 bW),by simp[q]⟩;have B:(oY h H).get? b=none:=PySem.W.hideAll_none (z0 h H) hm;rw[B] at e;cases e
structure Mod (K:Frag)(am:Str->Option Value)(base:Heap):Prop where
 wZ:K.In base
 glob:base.Ns mainGlobals am
 blt:∃w0,base.Ns builtinsNs w0/\∀x:Str,x≠"__name__"->w0 x=bootBuiltins x
 nolimit:base.NoLimit
structure bE where
 prog:Program
 w:World
 K:Frag
 am:Str->Option Value
 base:Heap
 A:Around
 N:List Str
 hx:Shared
 w1:aP
 env:Env
 outer:List Env
 stack:List Env
 ex:List Addr
 fn:Str->Bool
 calm:Bool
 kU:List (Addr×Obj)
 dG:Value->Shared->Prop
def mB (l:List Env):List Addr:=l.filterMap (·.frame)
abbrev bE.bT (X:bE):List Addr:=mB X.outer
def z1 (dz:Scope)(x:Str):Prop:=dz.names.lookup x=some .local\/dz.names.lookup x=some .cell\/dz.names.lookup x=some .free
def Loc (dz:Scope)(x:Str):Prop:=dz.names.lookup x=some .local\/dz.names.lookup x=some .cell
def Look (env:Env)(h:Heap)(m:Str->Option Value)(x:Str)(u:Value):Prop:=(env.kindOf x=some .local/\m x=some u)\/((env.kindOf x=some .cell\/env.kindOf x=some .free)/\∃c,env.cells.lookup x=some c/\h.IsCell c (some u))
structure bE.Ok (X:bE):Prop where
 mod:Mod X.K X.am X.base
 kind:X.env.scope.kind=.function
 glob:X.env.globals=mainGlobals
 blt:X.env.builtins=builtinsNs
 above:X.hx.heap.objs.size<=X.env.locals
 inj:∀x y c,X.env.cells.lookup x=some c->X.env.cells.lookup y=some c->x=y
 has:∀x,(X.env.kindOf x=some .cell\/X.env.kindOf x=some .free)->∃c,X.env.cells.lookup x=some c
 w2:∀x c,X.fn x=true->X.env.cells.lookup x=some c->X.hx.heap.objs.size<=c
 hd:X.calm=true->X.A.handled=none
 frames:X.A.frames=some X.stack
 z2:X.stack=X.outer\/(X.stack=X.env::X.outer/\X.env.frame=some X.env.locals)
 z3:∀b∈X.ex,b≠X.env.locals/\∀x c,X.env.cells.lookup x=some c->c≠b
 bs:∀b o,X.base.get? b=some o->X.hx.heap.get? b=some o/\X.w1 b=none
 oZ:X.base.objs.size<=X.hx.heap.objs.size
 w3:∀b o,X.base.get? b=some o->b∉X.ex
 w4:∀b∈X.ex,b∉X.bT
 lB:X.hx.heap.FunFrames X.base X.outer
 rC:∀b∈X.bT,X.w1 b=none
structure Inv (X:bE)(ac:List (Addr×Obj))(L:List (Option V))(H:aP)(s:Shared):Prop where
 ok:X.Ok
 os:s.os=X.hx.os
 bare:AllBare s.gens
 base:gp X.bT X.ex X.w1 H X.hx.heap s.heap
 loc:∃m,s.heap.Ns X.env.locals m/\∀(i:Nat)(x:Str)(v:V),X.N[i]?=some x->L[i]?=some (some v)->z1 X.env.scope x->∃u,RelV v u/\Look X.env s.heap m x u
 cell:∀x c,X.env.cells.lookup x=some c->∃v,s.heap.IsCell c v
 free:H X.env.locals=none
 mC:∀x c,X.env.cells.lookup x=some c->H c=none
 pin:∀p∈X.kU++ac,s.heap.get? p.1=some p.2/\H p.1=none/\p.1≠X.env.locals/\p.1∉X.bT/\∀v,p.2.data≠.cell v
 bi:eD X.prog X.w H s.heap
 len:L.length=X.N.length
section
variable{X:bE}{ac:List (Addr×Obj)}{L:List (Option V)}{H J:aP}{s:Shared}{h':Heap}
def bE.Ok.WD (ok:X.Ok)(e:X.base.get? b=some o):b∉X.bT:=λ Y=>by have:=(ok.lB.mem Y).1;rw[e] at this;cases this
def Inv.bs (I:Inv X ac L H s):∀b o,X.base.get? b=some o->s.heap.get? b=some o/\H b=none:=λ b o e=>⟨I.base.keep b o (I.ok.bs b o e).1 (I.ok.bs b o e).2 (I.ok.WD e) (I.ok.w3 b o e),I.base.free b o (I.ok.bs b o e).1 (I.ok.bs b o e).2 (I.ok.w3 b o e)⟩
def Inv.jD (I:Inv X ac L H s):∀b o,X.base.get? b=some o->s.heap.get? b=some o:=λ b o e=>(I.bs b o e).1
def Inv.mod (I:Inv X ac L H s):Mod X.K X.am X.base:=I.ok.mod
def Inv.iN (I:Inv X ac L H s):X.K.In s.heap:=I.ok.mod.wZ.keeps I.jD
def Inv.lt (I:Inv X ac L H s):X.env.locals<⇑s:=let ⟨_,aB,_⟩:=I.loc;aB.lt
def Inv.tO (I:Inv X ac L H s):X.hx.heap.objs.size<=⇑s:=cK I.ok.above (nI I.lt)
def Inv.WE (I:Inv X ac L H s)(h:⇑s<=a):a∉X.bT:=λ Y=>by obtain⟨_,_,aT,_⟩:=I.ok.lB.mem Y;exact absurd (hp (c2 aT) (cK I.tO h)) (kc _)
def Inv.rD (I:Inv X ac L H s):∀x c,X.env.cells.lookup x=some c->c≠X.env.locals:=λ x c e B=>by obtain⟨_,_,aT,hd⟩:=I.cell x c e;obtain⟨_,⟨_,_,_,lC,kV,_⟩,_⟩:=I.loc;rw[B,lC] at aT;cases aT;rw[kV] at hd;cases hd
def Inv.lB (I:Inv X ac L H s):s.heap.FunFrames X.base X.outer:=by
 have all:∀(l:List Env),(∀b∈mB l,b∈X.bT)->X.hx.heap.FunFrames X.base l->s.heap.FunFrames X.base l:=by
  intro l;induction l with
  |nil=>intro _ _;trivial
  |cons env r ih=>intro au ah;obtain⟨ax,⟨dC,o,aS,aB,aT,hd⟩,ab⟩:=ah;have cq:=au dC (by unfold mB;rw[gd,aS];exact cn);obtain⟨_,e⟩:=I.base.slot dC o aT (I.ok.rC dC cq) cq λ B=>I.ok.w4 dC B cq;exact⟨ax,⟨dC,_,aS,aB,e,hd⟩,ih (λ b Y=>au b (by unfold mB;rw[gd,aS];exact cu _ Y)) ab⟩
 exact all X.outer (λ _ Y=>Y) I.ok.lB
def Inv.stack (I:Inv X ac L H s):s.heap.FunFrames X.base X.stack:=by
 rcases I.ok.z2 with e|⟨e,aS⟩;·rw[e];exact I.lB
 ·rw[e];obtain⟨_,aB,_⟩:=I.loc;refine .cons (by rw[I.ok.kind];decide) aS aB ?_ I.lB;exact Heap.get?_none_of_le (cK I.ok.oZ I.ok.above)
def Inv.Ek (I:Inv X ac L H s):∀b∈mB X.stack,b∈X.env.locals::X.bT:=λ b Y=>by
 rcases I.ok.z2 with e|⟨e,aS⟩;·rw[e] at Y;exact cu _ Y
 ·rw[e] at Y;unfold mB at Y;rw[gd,aS] at Y;exact Y
def Inv.Ox (I:Inv X ac L H s):∀b∈mB X.stack,H b=none:=λ b Y=>by
 rcases bN.mp (I.Ek b Y) with e|Y;·rw[e];exact I.free
 ·obtain⟨_,o,aT,_⟩:=I.ok.lB.mem Y;exact I.base.free b o aT (I.ok.rC b Y) λ B=>I.ok.w4 b B Y
def Inv.step {ch:List Addr}(I:Inv X ac L H s)
  (nL:∀b∈ch,(b∈X.ex\/X.hx.heap.objs.size<=b)/\b≠X.env.locals/\(∀x c,X.env.cells.lookup x=some c->c≠b)/\∀p∈X.kU++ac,p.1≠b)
  (keep:∀b o,b≠X.env.locals->b∉X.bT->b∉ch->s.heap.get? b=some o->H b=none->h'.get? b=some o)
  (slot:∀b o,b≠X.env.locals->b∈X.bT->b∉ch->s.heap.get? b=some o->H b=none->∃sl,h'.get? b=some {o with slots:=sl}) (free:∀b o,b∉ch->s.heap.get? b=some o->H b=none->J b=none)
  (there:∀b o,b∉ch->s.heap.get? b=some o->∃fz,h'.get? b=some fz)
  (oW:∀b xs,H b=some (.tup xs)->J b=some (.tup xs)) (nK:∀b o u,H b=some (.hT o u)->J b=some (.hT o u)) (oX:∀b ps,H b=some (.rz ps)->∃more,J b=some (.rz (ps++more)))
  (ns:∀m,s.heap.Ns X.env.locals m->h'.Ns X.env.locals m) (bi:eD X.prog X.w J h') (bL:AllBare g'):
  Inv X ac L J {s with heap:=h',gens:=g',drawn:=d',toks:=t'}:=by
 have Oy:∀b o,X.hx.heap.get? b=some o->b≠X.env.locals:=λ b o e=>er (hp (c2 e) I.ok.above);have z4:∀b o,X.hx.heap.get? b=some o->b∉X.ex->b∉ch:=λ b o e aa Y=>by
  rcases (nL b Y).1 with B|B;·exact aa B
  ·exact absurd (hp (c2 e) B) (kc _)
 have Oz:∀x c,X.env.cells.lookup x=some c->∀v,s.heap.IsCell c v->h'.IsCell c v:=λ x c e v ⟨o,aT,hd⟩=>by
  have w5:c∉ch:=λ B=>(nL c B).2.2.1 x c e z;by_cases ak:c∈X.bT
  ·obtain⟨sl,q⟩:=slot c o (I.rD x c e) ak w5 aT (I.mC x c e);exact⟨_,q,hd⟩
  ·exact⟨o,keep c o (I.rD x c e) ak w5 aT (I.mC x c e),hd⟩
 refine⟨I.ok,I.os,bL,⟨λ b o e n Y aa=>?_,λ b o e n Y aa=>?_,λ b o e n aa=>?_,λ b o e aa=>?_,λ b xs e=>oW b xs (I.base.oW b xs e),λ b o xs e=>nK b o xs (I.base.nK b o xs e),λ b ps e=>?_⟩,?_,λ x c e=>?_,?_,λ x c e=>?_,λ p ar=>?_,bi,I.len⟩;·exact keep b o (Oy b o e) Y (z4 b o e aa) (I.base.keep b o e n Y aa) (I.base.free b o e n aa)
 ·obtain⟨sl,ap⟩:=I.base.slot b o e n Y aa;obtain⟨WF,ao⟩:=slot b _ (Oy b o e) Y (z4 b o e aa) ap (I.base.free b o e n aa);exact⟨WF,ao⟩
 ·obtain⟨fz,ap⟩:=I.base.there b o e aa;exact free b fz (z4 b o e aa) ap (I.base.free b o e n aa)
 ·obtain⟨fz,ap⟩:=I.base.there b o e aa;exact there b fz (z4 b o e aa) ap
 ·obtain⟨o0,ap⟩:=I.base.oX b ps e;obtain⟨gq,ao⟩:=oX b _ ap;exact⟨o0++gq,by rw[ao,Array.append_assoc]⟩
 ·obtain⟨m,aB,ah⟩:=I.loc;refine⟨m,ns m aB,λ i x v ap ao bz=>?_⟩;obtain⟨u,r,l⟩:=ah i x v ap ao bz;refine⟨u,r,?_⟩;rcases l with l|⟨k,c,e,B⟩
  ·exact .inl l
  ·exact .inr ⟨k,c,e,Oz x c e _ B⟩
 ·obtain⟨v,B⟩:=I.cell x c e;exact⟨v,Oz x c e v B⟩
 ·obtain⟨m,⟨o,_,_,aT,_⟩,_⟩:=I.loc;exact free _ o (λ B=>(nL _ B).2.1 z) aT I.free
 ·obtain⟨v,o,aT,hd⟩:=I.cell x c e;exact free c o (λ B=>(nL c B).2.2.1 x c e z) aT (I.mC x c e)
 ·obtain⟨e,n,ne,kf,d⟩:=I.pin p ar;have w5:p.1∉ch:=λ B=>(nL p.1 B).2.2.2 p ar z;exact⟨keep p.1 p.2 ne kf w5 e n,free p.1 p.2 w5 e n,ne,kf,d⟩
def Inv.un (I:Inv X ac L H s)(u:gp X.bT [] H J s.heap h')(bi:eD X.prog X.w J h'):Inv X ac L J {s with heap:=h',toks:=t'}:=by
 obtain⟨_,⟨o,_,_,aT,_⟩,_⟩:=id I.loc;obtain⟨_,cq⟩:=u.any aT I.free ⇑2;exact I.step (g':=s.gens) (d':=s.drawn) (ch:=[]) (λ _ B=>nomatch B) (λ b o _ Y _ e n=>u.keep b o e n Y ⇑2) (λ b o _ Y _ e n=>u.slot b o e n Y ⇑2) (λ b o _ e n=>u.free b o e n ⇑2) (λ b o _ e=>u.there b o e ⇑2) u.oW u.nK u.oX (λ _ hm=>by obtain⟨_,w6,rE,lC,eE⟩:=hm;rw[aT] at lC;cases lC;exact⟨_,w6,rE,cq,eE⟩) bi I.bare
def Inv.call (I:Inv X ac L H s)(u:gp (mB X.stack) ch H J s.heap h')(bi:eD X.prog X.w J h')(bL:AllBare g')
  (nL:∀b∈ch,(b∈X.ex\/X.hx.heap.objs.size<=b)/\b≠X.env.locals/\(∀x c,X.env.cells.lookup x=some c->c≠b)/\∀p∈X.kU++ac,p.1≠b):
  Inv X ac L J {s with heap:=h',gens:=g',drawn:=d',toks:=t'}:=by
 obtain⟨_,⟨o,_,_,aT,_⟩,_⟩:=id I.loc;obtain⟨_,cq⟩:=u.any aT I.free λ B=>(nL _ B).2.1 z;exact I.step (ch:=ch) nL (λ b o cq Y ak e n=>u.keep b o e n (λ B=>(bN.mp (I.Ek b B)).elim cq Y) ak) (λ b o _ _ ak e n=>u.any e n ak) (λ b o ak e n=>u.free b o e n ak) (λ b o ak e=>u.there b o e ak) u.oW u.nK u.oX (λ _ hm=>by obtain⟨_,w6,rE,lC,eE⟩:=hm;rw[aT] at lC;cases lC;exact⟨_,w6,rE,cq,eE⟩) bi bL
def Inv.turned (I:Inv X ac L H s)(k:∀b o,b≠bP->s.heap.get? b=some o->h'.get? b=some o)(aB:H bP=none)(cq:bP≠X.env.locals)
  (D:bP∈X.ex\/X.hx.heap.objs.size<=bP) (G:∀x c,X.env.cells.lookup x=some c->c≠bP) (an:∀p∈X.kU++ac,p.1≠bP):Inv X ac L H {s with heap:=h',toks:=t'}:=by
 have p9:∀b u,H b=some u->b≠bP:=λ b u e B=>by rw[B,aB] at e;cases e
 refine I.step (g':=s.gens) (d':=s.drawn) (ch:=[bP]) (λ b Y=>?_) (λ b o _ _ ak e _=>k b o (λ B=>ak (by simp[B])) e) (λ b o _ _ ak e _=>⟨o.slots,k b o (λ B=>ak (by simp[B])) e⟩) (λ _ _ _ _ n=>n)
  (λ b o ak e=>⟨o,k b o (λ B=>ak (by simp[B])) e⟩) (λ _ _ e=>e) (λ _ _ _ e=>e) (λ b _ e=>⟨#[],by rw[e];simp⟩) (λ _ hm=>?_) (λ b u e=>?_) I.bare
 ·have e:b=bP:=by simpa using Y
  subst e;exact⟨D,cq,G,an⟩
 ·obtain⟨o,ae,ep,aT,r⟩:=hm;exact⟨o,ae,ep,k _ o (i7 cq) aT,r⟩
 ·refine(I.bi b u e).rA (λ c v ak q=>k c v ?_ q) (λ _ q=>q) λ _ _ q=>q;rcases ak with B|B
  ·rw[B];exact p9 b u e
  ·exact p9 c _ B
def Inv.tok (I:Inv X ac L H s)(t):Inv X ac L H {s with toks:=t}:=I.un (h':=s.heap) (t':=t) gp.refl I.bi
def Inv.kept (I:Inv X ac L H s)(k:∀b u,s.heap.get? b=some u->h'.get? b=some u):Inv X ac L H {s with heap:=h',toks:=t'}:=I.un (gp.kept k) (I.bi.kept k)
def Inv.laid (I:Inv X ac L H s)(k:∀b u,s.heap.get? b=some u->h'.get? b=some u)(ar:⇑s<=a)(new:e8 X.prog X.w (upd H a o) h' a o):
  Inv X ac L (upd H a o) {s with heap:=h',toks:=t'}:=I.un (gp.laid k ar (I.bi.fresh ar)) (I.bi.laid k ar new)
def Inv.write (I:Inv X ac L H s)(ke:wY (H x))(a3:e=x\/H e=some (.own x))(k:∀b u,b≠e->s.heap.get? b=some u->h'.get? b=some u)(tN:∃u,h'.get? e=some u)
  (new:e8 X.prog X.w (upd H x o) h' x o):Inv X ac L (upd H x o) {s with heap:=h',toks:=t'}:=I.un (gp.write ke a3 k tN) (I.bi.write ke a3 k tN new)
def Inv.weak (I:Inv X ac L H s)(ah:cf.length=L.length)(w:∀(i:Nat) v,cf[i]?=some (some v)->L[i]?=some (some v)):Inv X ac cf H s:=⟨I.ok,I.os,I.bare,I.base,let ⟨m,aB,p_⟩:=I.loc;⟨m,aB,λ i x v ap ao bz=>p_ i x v ap (w i v ao) bz⟩,I.cell,I.free,I.mC,I.pin,I.bi,ah.trans I.len⟩
def Inv.OA (I:Inv X ac L H s)(h:∀p∈WG,s.heap.get? p.1=some p.2/\H p.1=none/\p.1≠X.env.locals/\p.1∉X.bT/\∀v,p.2.data≠.cell v):Inv X WG L H s:=⟨I.ok,I.os,I.bare,I.base,I.loc,I.cell,I.free,I.mC,λ p ar=>(eJ.mp ar).elim (λ B=>I.pin p (rj _ B)) (h p),I.bi,I.len⟩
def El {N:List Str}(d6:N.Nodup){i j:Nat}(a:N[i]?=some x)(b:N[j]?=some x):i=j:=by obtain⟨_,ap⟩:=c_.mp a;obtain⟨_,ao⟩:=c_.mp b;exact(List.getElem_inj d6).mp (ap.trans ao.symm)
def OB (I:Inv X ac L H s)(d6:X.N.Nodup)(aj:X.N[i]?=some x)(aa:Loc X.env.scope x)(r:RelV v u)
  (h:∀aV,Inv X ac (L.set i (some v)) H aV->(∃a,Heap.SameBut a s.heap aV.heap/\(a=X.env.locals\/X.env.cells.lookup x=some a))->Q () aV) (aS:X.fn x=true\/X.env.scope.names.lookup x=some .local:=by nofun):wpAny dU A (storeName X.env x u) Q E s:=by
 obtain⟨m,aB,ah⟩:=id I.loc;have WH:(X.env.scope.kind== .class||(X.env.scope.kind== .module&&X.env.locals !=X.env.globals))=false:=by rw[I.ok.kind];rfl
 have OC:i<L.length:=by rw[I.len];exact(c_.mp aj).1
 have rD:=I.rD;have OD:∀{a:Addr}{h':Heap},(∃o,s.heap.get? a=some o/\H a=none)->Heap.SameBut a s.heap h'->eD X.prog X.w H h':=λ {a h'} az au b ob e=>by
  obtain⟨_,_,tP⟩:=az;refine(I.bi b ob e).rA (λ c w' ak q=>(au.2 c ?_).trans q) (λ _ q=>q) λ _ _ q=>q;rintro rfl;rcases ak with rfl|ak
  ·rw[tP] at e;cases e
  ·rw[tP] at ak;cases ak
 rcases aa with ax|ax
 ·refine wpAny_storeName_local ax aB (λ h' tQ au=>?_) WH;obtain⟨WI,_,_,WJ,_⟩:=id aB;refine h _ ⟨I.ok,I.os,I.bare,⟨λ b o e n Y aa=>?_,λ b o e n Y aa=>?_,I.base.free,λ b o e aa=>?_,I.base.oW,I.base.nK,I.base.oX⟩,⟨_,tQ,λ j y w7 ap ao bz=>?_⟩,λ y c e=>?_,I.free,I.mC,λ p ar=>?_,OD ⟨WI,WJ,I.free⟩ au,↥I.len⟩ ⟨_,au,.inl z⟩
  ·exact(au.2 b (er (hp (c2 e) I.ok.above))).trans (I.base.keep b o e n Y aa)
  ·obtain⟨sl,ap⟩:=I.base.slot b o e n Y aa;exact⟨sl,(au.2 b (er (hp (c2 e) I.ok.above))).trans ap⟩
  ·obtain⟨fz,ap⟩:=I.base.there b o e aa;exact⟨fz,(au.2 b (er (hp (c2 e) I.ok.above))).trans ap⟩
  ·by_cases a0:j=i
   ·subst a0;rw[aj] at ap;cases ap;rw[wx OC] at ao;cases ao;exact⟨u,r,.inl ⟨ax,⇑2⟩⟩
   ·rw[zC (i7 a0)] at ao;obtain⟨lD,eE,q⟩:=ah j y w7 ap ao bz;refine⟨lD,eE,?_⟩;rcases q with⟨k,e⟩|⟨k,c,e,B⟩
    ·refine .inl ⟨k,?_⟩;have:y≠x:=λ e=>a0 (El d6 ap (e▸aj));simp[this,e]
    ·exact .inr ⟨k,c,e,B.sameBut au (rD y c e)⟩
  ·obtain⟨w',B⟩:=I.cell y c e;exact⟨w',B.sameBut au (rD y c e)⟩
  ·obtain⟨e,n,ne,kf,d⟩:=I.pin p ar;exact⟨(au.2 p.1 ne).trans e,n,ne,kf,d⟩
 ·have Em:X.fn x=true:=by
   rcases aS with B|B;·exact B
   ·rw[B] at ax;cases ax
  obtain⟨c,ak⟩:=I.ok.has x (.inl ax);obtain⟨w',B⟩:=I.cell x c ak;refine wpAny_storeName_cell I.ok.kind ax ak B (λ h' o1 au=>?_);obtain⟨i9,OE,WK⟩:=id B;refine h {s with heap:=h'} ⟨I.ok,I.os,I.bare,⟨λ b o e n Y aa=>?_,λ b o e n Y aa=>?_,I.base.free,λ b o e aa=>?_,I.base.oW,I.base.nK,I.base.oX⟩,⟨m,aB.sameBut au (i7 (rD x c ak)),λ j y w7 ap ao bz=>?_⟩,λ y dw e=>?_,I.free,I.mC,λ p ar=>?_,OD ⟨i9,OE,I.mC x c ak⟩ au,↥I.len⟩ ⟨c,au,.inr ak⟩;·exact(au.2 b (er (hp (c2 e) (I.ok.w2 x c Em ak)))).trans (I.base.keep b o e n Y aa)
  ·obtain⟨sl,ap⟩:=I.base.slot b o e n Y aa;exact⟨sl,(au.2 b (er (hp (c2 e) (I.ok.w2 x c Em ak)))).trans ap⟩
  ·obtain⟨fz,ap⟩:=I.base.there b o e aa;exact⟨fz,(au.2 b (er (hp (c2 e) (I.ok.w2 x c Em ak)))).trans ap⟩
  ·by_cases a0:j=i
   ·subst a0;rw[aj] at ap;cases ap;rw[wx OC] at ao;cases ao;exact⟨u,r,.inr ⟨.inl ax,c,ak,o1⟩⟩
   ·rw[zC (i7 a0)] at ao;obtain⟨lD,eE,q⟩:=ah j y w7 ap ao bz;refine⟨lD,eE,?_⟩;rcases q with q|⟨k,dw,e,w8⟩
    ·exact .inl q
    ·refine .inr ⟨k,dw,e,w8.sameBut au ?_⟩;rintro rfl;exact a0 (El d6 ap (I.ok.inj _ _ _ e ak▸aj))
  ·by_cases OF:dw=c
   ·subst OF;exact⟨_,o1⟩
   ·obtain⟨cz,e_⟩:=I.cell y dw e;exact⟨cz,e_.sameBut au OF⟩
  ·obtain⟨e,n,ne,kf,d⟩:=I.pin p ar;refine⟨(au.2 p.1 ?_).trans e,n,ne,kf,d⟩;intro q;rw[q,OE] at e;have eL:=eV e;exact d w' (by rw[<-eL];exact WK)
def OG (I:Inv X ac L H s)(d6:X.N.Nodup)(aj:X.N[i]?=some x)(aa:Loc X.env.scope x)(r:RelV v u)
  (h:∀aV,Inv X ac (L.set i (some v)) H aV->Q () aV) (aS:X.fn x=true\/X.env.scope.names.lookup x=some .local:=by nofun):wpAny dU A (storeName X.env x u) Q E s:=
 OB I d6 aj aa r (λ aV hU _=>h aV hU) aS
def Inv.WL (I:Inv X ac L H s)(aT:aV.os=s.os)(u:gp (mB X.stack) ch H J s.heap aV.heap)(bi:eD X.prog X.w J aV.heap)(bL:AllBare aV.gens)
  (nL:∀b∈ch,(b∈X.ex\/X.hx.heap.objs.size<=b)/\b≠X.env.locals/\(∀x c,X.env.cells.lookup x=some c->c≠b)/\∀p∈X.kU++ac,p.1≠b):Inv X ac L J aV:=by
 obtain⟨_,g',d',t',_⟩:=aV;have e:=aT;subst e;exact I.call (g':=g') (t':=t') (d':=d') u bi bL nL
end
abbrev mD:=Value->Option Addr->aP->Prop
abbrev St:=List (Option V)
abbrev d7:=V->aP->Prop
abbrev TE:=St->aP->d7->Prop
abbrev TT:=St->aP->(Bool->aP->Prop)->Prop
abbrev eX:=St->aP->(List V->aP->Prop)->Prop
structure Ends where
 a7:St->aP->Prop
 nM:d7
 jD:St->aP->Prop:=λ _ _=>False
 es:St->aP->Prop:=λ _ _=>False
abbrev g6:=Ends->St->aP->Prop
inductive g7(X:bE)(ac:List (Addr×Obj))(L:St)(Q:d7)(u:Value)(aV:Shared):Prop|mk v J:Inv X ac L J aV->RelV v u->Q v J->g7 X ac L Q u aV
def En (X:bE)(ac:List (Addr×Obj))(L:St)(Q:Bool->aP->Prop)(b:Bool)(aV:Shared):Prop:=∃J,Inv X ac L J aV/\Q b J
inductive WM(X:bE)(ac:List (Addr×Obj))(L:St)(Q:List V->aP->Prop)(us:List Value)(aV:Shared):Prop|mk vs J:Inv X ac L J aV->Vals vs us->Q vs J->WM X ac L Q us aV
def tR (X:bE)(ac:List (Addr×Obj))(af:Ends)(f:Flow)(aV:Shared):Prop:=
 match f with
 |.next=>∃cf J,Inv X ac cf J aV/\af.a7 cf J
 |.brk=>∃cf J,Inv X ac cf J aV/\af.jD cf J
 |.cont=>∃cf J,Inv X ac cf J aV/\af.es cf J
 |.ret u=>∃v cf J,Inv X ac cf J aV/\RelV v u/\af.nM v J
def a9 (X:bE)(e:Expr)(t:TE):Prop:=∀⦃ac⦄ s L H Q,Inv X ac L H s->t L H Q->⇑4 (eval e X.env) (g7 X ac L Q) X.dG s
def kg (X:bE)(e:Expr)(t:TT):Prop:=∀⦃ac⦄ s L H Q,Inv X ac L H s->t L H Q->⇑4 (isTrue e X.env (eval e X.env)) (En X ac L Q) X.dG s
def rF (X:bE)(e:Expr)(t:TT):Prop:=∀(whole:Sem Value)(ac:List (Addr×Obj))(s:Shared)(L:St)(H:aP)(Q:Bool->aP->Prop),Inv X ac L H s->t L H Q->⇑4 (isTrue e X.env whole) (En X ac L Q) X.dG s
def gf (X:bE)(ae:List Expr)(t:eX):Prop:=∀pos ac s L H Q,Inv X ac L H s->t L H Q->⇑4 (spliced (backTo pos (starEach ae X.env))) (WM X ac L Q) X.dG s
def kh (X:bE)(st:Stmt)(t:g6):Prop:=∀⦃ac⦄ s L H af,Inv X ac L H s->t af L H->⇑4 (exec st X.env) (tR X ac af) X.dG s
def ki (X:bE)(st:List Stmt)(t:g6):Prop:=∀⦃ac⦄ s L H af,Inv X ac L H s->t af L H->⇑4 (execs st X.env) (tR X ac af) X.dG s
def bC (h:wpAny dU A t Q E s)(gD:∀a s,Q a s->Q' a s):wpAny dU A t Q' E s:=hu h gD λ _ _ x=>x
section
variable{X:bE}
inductive i_(i:Nat)(L:St)(H:aP)(Q:d7):Prop|mk v:L[i]?=some (some v)->Q v H->i_ i L H Q
def i' (v:V):TE:=λ _ H Q=>Q v H
def WN (d6:X.N[i]?=some x)(ba:z1 X.env.scope x)(hd:(x==("__debug__":Str))=false:=by decide)(rG:(x==("__classdict__":Str))=false:=by decide):a9 X (.Name x pos) (i_ i):=by
 intro ac s L H Q I h;obtain⟨v,e,h⟩:=h;obtain⟨_,aB,ah⟩:=I.loc;obtain⟨u,r,l⟩:=ah i x v d6 e ba;have cY:g7 X ac L Q u s:=⟨v,H,I,r,h⟩;rcases l with⟨ax,hm⟩|⟨ax,c,ak,OH⟩
 ·exact wpAny_Name (wpAny_loadName_local I.ok.kind ax aB hm cY) hd
 ·rcases ax with ax|ax
  ·exact wpAny_Name (wpAny_loadName_cell I.ok.kind ax ak OH cY) hd
  ·exact wpAny_Name (wpAny_loadName_free I.ok.kind ax ak OH cY rG) hd
def bc:a9 X (.Constant (.int i) j pos) (i' (.int i)):=λ _ _ _ H _ I h=>wpAny_Constant_int ⟨.int i,H,I.tok _,⟨_,z⟩,h⟩
def w9:a9 X (.Constant (.bool b) j pos) (i' (.bg b)):=λ _ _ _ H _ I h=>Constant_bool ⟨.bg b,H,I,z,h⟩
def o2:a9 X (.Constant .none j pos) (i' .b6):=λ _ _ _ H _ I h=>Constant_none ⟨.b6,H,I,z,h⟩
def g8:a9 X (.Constant (.str x) j pos) (i' (.str x)):=λ _ _ _ H _ I h=>Calls.Constant_str ⟨.str x,H,I.tok _,⟨_,z⟩,h⟩
def gr (X:bE)(x:Str):Prop:=X.env.kindOf x=some .globalImplicit
def z5 (I:Inv X ac L H s)(bL:gr X x)(hm:X.am x=some u)(h:Q u s)
  (hd:(x==("__debug__":Str))=false:=by decide):⇑4 (eval (.Name x pos) X.env) Q E s:=
 NO I.ok.kind bL (Calls.loadGlobal_global (by rw[I.ok.glob];exact I.mod.glob.keeps I.jD) hm h) hd
def rH (I:Inv X ac L H s)(bL:gr X x)(hm:X.am x=none)(ba:bootBuiltins x=some u)(h:Q u s)
  (aB:x≠"__name__":=by decide) (hd:(x==("__debug__":Str))=false:=by decide):⇑4 (eval (.Name x pos) X.env) Q E s:=by
 obtain⟨_,D,G⟩:=I.mod.blt;exact NO I.ok.kind bL (Calls.loadGlobal_builtin (by rw[I.ok.glob];exact I.mod.glob.keeps I.jD) hm (by rw[I.ok.blt];exact D.keeps I.jD) ((G x aB).trans ba) h) hd
def Eo (bL:gr X x)(hm:X.am x=some u)(r:RelV v u)(hd:(x==("__debug__":Str))=false:=by decide):a9 X (.Name x pos) (i' v):=λ _ _ _ H _ I h=>z5 I bL hm ⟨v,H,I,r,h⟩ hd
variable{a b:Expr}{bx dd:TE}{pos:Pos}
def tS (X:bE)(op:CmpOp)(a b:Expr)(t:TE):Prop:=∀⦃ac⦄ s L H Q,Inv X ac L H s->t L H Q->⇑4 (eval a X.env) (λ v dA=>⇑4 (eval b X.env) (λ u ir=>⇑4 (compareOp op v u) (g7 X ac L Q) X.dG ir) X.dG dA) X.dG s
def WO (b)(h:op≠.In)(G:op≠.NotIn):behindInMarks op b=false:=by
 have ap:(op==CmpOp.In)=false:=by cases op<;>first|rfl|exact absurd rfl h
 have ao:(op==CmpOp.NotIn)=false:=by cases op<;>first|rfl|exact absurd rfl G
 cases b<;>simp[behindInMarks,ap,ao]
def WQ (bx:TE):TE:=λ L H Q=>bx L H λ x H1=>Q (.bg (decide (x=.b6))) H1
def WR (bx:TE):TE:=λ L H Q=>bx L H λ x H1=>Q (.bg (!decide (x=.b6))) H1
def RelV.Ep (r:RelV x v):(v==Value.none)=decide (x=.b6):=by
 cases x with
 |b6=>cases r;rfl
 |bg _=>cases r;rfl
 |int _=>obtain⟨t,rfl⟩:=r;rfl
 |str _=>obtain⟨t,rfl⟩:=r;rfl
 |iM _=>obtain⟨t,rfl⟩:=r;rfl
 |wW _=>obtain⟨t,rfl⟩:=r;rfl
 |ref _=>cases r;rfl
 |ty _=>cases r;rfl
def WS (az:a9 X a bx):tS X .Is a (.Constant .none j lE) (WQ bx):=by intro ac s L H _ I h;refine bC (az s L H _ I h) λ _ _ ⟨_,H1,a4,b0,q1⟩=>?_;exact Constant_none (is_none_gen ⟨.bg _,H1,a4,by rw[b0.Ep];rfl,q1⟩)
def WT (az:a9 X a bx):tS X .IsNot a (.Constant .none j lE) (WR bx):=by intro ac s L H _ I h;refine bC (az s L H _ I h) λ _ _ ⟨_,H1,a4,b0,q1⟩=>?_;exact Constant_none (isnot_none_gen ⟨.bg _,H1,a4,by rw[b0.Ep];rfl,q1⟩)
inductive Erj(Q:Bool->aP->Prop)(x:V)(H1:aP):Prop|mk c:x=.bg c->Q c H1->Erj Q x H1
def Er (t:TE):TT:=λ L H Q=>t L H (Erj Q)
def w_ (h:tS X op a b t)(D:behindInMarks op b=false:=by first|exact WO _ ⇑0 ⇑0|rfl):kg X (.Compare a [op] [b] pos) (Er t):=by intro ac s L H _ I hw;refine Oj (bC (h s L H _ I hw) λ _ _ D=>bC D λ _ _ G=>bC G λ _ _ ⟨_,H1,a4,b0,q1⟩=>?_) D;obtain⟨_,rfl,q⟩:=q1;cases b0;exact oR ⟨H1,a4,q⟩
def gE (h:a9 X e t)(a3:∀whole,isTrue e X.env whole=(do let v<-whole;standAt e.pos;holding [v] (truthy v)):=by intro _;rfl):kg X e (Er t):=by intro ac s L H _ I hw;refine isTrue_plain (bC (h s L H _ I hw) λ v _ ⟨_,H1,a4,b0,q1⟩=>?_) (a3 _);obtain⟨_,rfl,q⟩:=q1;cases b0;exact oR ⟨H1,a4,q⟩
variable{lF z6:TT}{rest:List Expr}
def WU (t u:TT):TT:=λ L H Q=>t L H λ c H1=>if c=true then u L H1 Q else Q false H1
def OI (t u:TT):TT:=λ L H Q=>t L H λ c H1=>if c=true then Q true H1 else u L H1 Q
def OJ (t:TT):TT:=λ L H Q=>t L H λ c H1=>Q (!c) H1
def z7 (az:kg X a lF):rF X (.BoolOp .And [a] pos) lF:=by
 intro _ ac s L H Q I h;refine isTrue_and (bC (az s L H Q I h) λ c _ e=>?_);cases c with
 |true=>exact isTrue_and_nil e
 |false=>exact e
def Es (az:kg X a lF):rF X (.BoolOp .Or [a] pos) lF:=by
 intro _ ac s L H Q I h;refine isTrue_or (bC (az s L H Q I h) λ c _ e=>?_);cases c with
 |false=>exact isTrue_or_nil e
 |true=>exact e
def z8 (az:kg X a lF)(Y:rF X (.BoolOp .And (b::rest) pos) z6):rF X (.BoolOp .And (a::b::rest) pos) (WU lF z6):=by
 intro gg ac s L H Q I h;refine isTrue_and (bC (az s L H _ I h) λ c al ⟨H1,a4,q1⟩=>?_);cases c with
 |true=>exact Y gg ac al L H1 Q a4 q1
 |false=>exact⟨H1,a4,q1⟩
def z9 (az:kg X a lF)(Y:rF X (.BoolOp .Or (b::rest) pos) z6):rF X (.BoolOp .Or (a::b::rest) pos) (OI lF z6):=by
 intro gg ac s L H Q I h;refine isTrue_or (bC (az s L H _ I h) λ c al ⟨H1,a4,q1⟩=>?_);cases c with
 |true=>exact⟨H1,a4,q1⟩
 |false=>exact Y gg ac al L H1 Q a4 q1
def iO (az:kg X a lF):kg X (.UnaryOp .Not a pos) (OJ lF):=by intro ac s L H Q I h;exact isTrue_not (az s L H (λ c H1=>Q (!c) H1) I h)
inductive OKj(dd:TE)(L:St)(Q:d7)(x:V)(H1:aP):Prop|mk c:x=.bg c->(if c=true then dd L H1 Q else Q (.bg false) H1)->OKj dd L Q x H1
def OK (bx dd:TE):TE:=λ L H Q=>bx L H (OKj dd L Q)
inductive WVj(dd:TE)(L:St)(Q:d7)(x:V)(H1:aP):Prop|mk c:x=.bg c->(if c=true then Q (.bg true) H1 else dd L H1 Q)->WVj dd L Q x H1
def WV (bx dd:TE):TE:=λ L H Q=>bx L H (WVj dd L Q)
def nN (h:a9 X a t):a9 X (.BoolOp op [a] pos) t:=λ ac s L H Q I hw=>BoolOp_one (h s L H Q I hw)
def rI (az:a9 X a bx)(Y:a9 X (.BoolOp .And (b::rest) pos) dd):a9 X (.BoolOp .And (a::b::rest) pos) (OK bx dd):=by
 intro ac s L H Q I h;refine BoolOp_and (bC (az s L H _ I h) λ _ al ⟨_,H1,a4,b0,q1⟩=>?_);obtain⟨c,rfl,q1⟩:=q1;cases b0;refine oR ?_;cases c with
 |true=>exact Y al L H1 Q a4 q1
 |false=>exact⟨.bg false,H1,a4,z,q1⟩
def Et (az:a9 X a bx)(Y:a9 X (.BoolOp .Or (b::rest) pos) dd):a9 X (.BoolOp .Or (a::b::rest) pos) (WV bx dd):=by
 intro ac s L H Q I h;refine BoolOp_or (bC (az s L H _ I h) λ _ al ⟨_,H1,a4,b0,q1⟩=>?_);obtain⟨c,rfl,q1⟩:=q1;cases b0;refine oR ?_;cases c with
 |false=>exact Y al L H1 Q a4 q1
 |true=>exact⟨.bg true,H1,a4,z,q1⟩
def OL (t:TT)(bx dd:TE):TE:=λ L H Q=>t L H λ c H1=>if c=true then bx L H1 Q else dd L H1 Q
def mE (ak:kg X c lF)(az:a9 X a bx)(Y:a9 X b dd):a9 X (.IfExp c a b pos) (OL lF bx dd):=by
 intro ac s L H Q I h;refine wpAny_IfExp (bC (ak s L H _ I h) λ d al ⟨H1,a4,q1⟩=>?_);cases d with
 |true=>exact az al L H1 Q a4 q1
 |false=>exact Y al L H1 Q a4 q1
end
def aG (K:Frag)(H:aP)(a:Addr)(xs:List V):Prop:=mA H a (.lst xs)\/∃o aR n,K.lookup a=some o/\o.cls=.type "list"/\o.dict=none/\o.data=.seq aR n/\aR.size<=sizeLine/\Vals xs aR.toList
def dh (K:Frag)(H:aP)(a:Addr)(xs:List V):Prop:=mA H a (.tup xs)\/∃o aR n,K.lookup a=some o/\o.cls=.type "tuple"/\o.data=.seq aR n/\aR.size<=sizeLine/\Vals xs aR.toList
def z_:Value->Option V
 |.none=>some .b6
 |.bool b=>some (.bg b)
 |.int i _=>some (.int i)
 |.str x _=>some (.str x)
 |.bytes b _=>some (.iM b)
 |.float b _=>some (.wW b)
 |.ref a=>some (.ref a)
 |.type n=>some (.ty n)
 |_=>none
def RelV.abs (r:RelV x u):z_ u=some x:=by
 cases x with
 |b6=>cases r;rfl
 |bg _=>cases r;rfl
 |int _=>obtain⟨t,rfl⟩:=r;rfl
 |str _=>obtain⟨t,rfl⟩:=r;rfl
 |iM _=>obtain⟨t,rfl⟩:=r;rfl
 |wW _=>obtain⟨t,rfl⟩:=r;rfl
 |ref _=>cases r;rfl
 |ty _=>cases r;rfl
def RelV.inj (r:RelV x u)(q:RelV y u):x=y:=eV (r.abs.symm.trans q.abs)
theorem Vals.inj:∀{xs ys:List V}{us:List Value},Vals xs us->Vals ys us->xs=ys
 |_,_,_,.nil,.nil=>rfl
 |_,_,_,.cons r t,.cons eE t'=>by rw[r.inj eE,Vals.inj t t']
section
variable{X:bE}{ac:List (Addr×Obj)}{L:St}{H:aP}{s:Shared}{a:Addr}{xs ys:List V}
def aG.of {K:Frag}(h:H a=some (.lst xs)):aG K H a xs:=.inl (.inl h)
def dh.of {K:Frag}(h:H a=some (.tup xs)):dh K H a xs:=.inl (.inl h)
def Inv.list (I:Inv X ac L H s)(h:aG X.K H a xs):∃aR:List Value,Vals xs aR/\PlainL s.heap a aR.toArray/\xs.length<=sizeLine:=by
 rcases h with h|⟨o,aR,n,ax,ak,hd,au,hz,r⟩
 ·obtain⟨B,aR,n,r,e⟩:=h.ok I.bi;exact⟨aR,r,⟨_,n,e,z,z,z⟩,B⟩
 ·refine⟨aR.toList,r,⟨o,n,I.iN a o ax,ak,hd,↥au⟩,?_⟩;have e:=r.length;simp only[nC] at e;omega
def Inv.tuple (I:Inv X ac L H s)(h:dh X.K H a xs):∃aR:List Value,Vals xs aR/\IsTup s.heap a aR.toArray/\xs.length<=sizeLine:=by
 rcases h with h|⟨o,aR,n,ax,ak,au,hz,r⟩
 ·obtain⟨B,aR,r,p⟩:=h.ok I.bi;exact⟨aR,r,p,B⟩
 ·refine⟨aR.toList,r,⟨o,I.iN a o ax,ak,n,↥au⟩,?_⟩;have e:=r.length;simp only[nC] at e;omega
def Inv.z' (I:Inv X ac L H s)(h:aG X.K H a xs)(h':aG X.K H a ys):xs=ys:=by
 obtain⟨aR,r,⟨_,_,e,_,_,d⟩,_⟩:=I.list h;obtain⟨its',eE,⟨_,_,bW,_,_,d'⟩,_⟩:=I.list h';rw[e] at bW;cases bW;rw[d] at d';injection d' with kj _
 have:aR=its':=by simpa using congrArg Array.toList kj
 subst this;exact r.inj eE
def Inv.WW (I:Inv X ac L H s)(h:dh X.K H a xs)(h':dh X.K H a ys):xs=ys:=by
 obtain⟨aR,r,⟨_,e,_,_,d⟩,_⟩:=I.tuple h;obtain⟨its',eE,⟨_,bW,_,_,d'⟩,_⟩:=I.tuple h';rw[e] at bW;cases bW;rw[d] at d';injection d' with kj _
 have:aR=its':=by simpa using congrArg Array.toList kj
 subst this;exact r.inj eE
end
abbrev bE.nO (X:bE)(E:Value->Shared->Prop):bE:={X with dG:=E}
abbrev bE.xa (X:bE):bE:=X.nO λ _ _=>False
def bE.Ok.nO {X:bE}(ok:X.Ok)(E):(X.nO E).Ok:=⟨ok.mod,ok.kind,ok.glob,ok.blt,ok.above,ok.inj,ok.has,ok.w2,ok.hd,ok.frames,ok.z2,ok.z3,ok.bs,ok.oZ,ok.w3,ok.w4,ok.lB,ok.rC⟩
def bE.Ok.p' {X:bE}(ok:(X.nO E).Ok):X.Ok:=⟨ok.mod,ok.kind,ok.glob,ok.blt,ok.above,ok.inj,ok.has,ok.w2,ok.hd,ok.frames,ok.z2,ok.z3,ok.bs,ok.oZ,ok.w3,ok.w4,ok.lB,ok.rC⟩
section
variable{X:bE}{ac:List (Addr×Obj)}{L:St}{H:aP}{s:Shared}{E:Value->Shared->Prop}
def Inv.nO (I:Inv X ac L H s)(E):Inv (X.nO E) ac L H s:=⟨I.ok.nO E,I.os,I.bare,I.base,I.loc,I.cell,I.free,I.mC,I.pin,I.bi,I.len⟩
def Inv.p' (I:Inv (X.nO E) ac L H s):Inv X ac L H s:=⟨I.ok.p',I.os,I.bare,I.base,I.loc,I.cell,I.free,I.mC,I.pin,I.bi,I.len⟩
def tR.p' (h:tR (X.nO E) ac af f aV):tR X ac af f aV:=by
 cases f with
 |next=>obtain⟨cf,J,I,q⟩:=h;exact⟨cf,J,I.p',q⟩
 |brk=>obtain⟨cf,J,I,q⟩:=h;exact⟨cf,J,I.p',q⟩
 |cont=>obtain⟨cf,J,I,q⟩:=h;exact⟨cf,J,I.p',q⟩
 |ret u=>obtain⟨v,cf,J,I,r,q⟩:=h;exact⟨v,cf,J,I.p',r,q⟩
def ki.xa {st:List Stmt}(h:ki X.xa st t):ki X st t:=λ ac s L H af I hw=>hu (h s L H af (I.nO _) hw) (λ _ _ q=>q.p') λ _ _ B=>False.elim B
end
section
variable{X:bE}{st:Stmt}{rest:List Stmt}{t u:g6}{e:Expr}{cc:TE}{pos:Pos}
def OM:g6:=λ af L H=>af.a7 L H
def Eu (t u:g6):g6:=λ af L H=>t {af with a7:=u af} L H
def cj:ki X [] OM:=λ _ _ L H _ I h=>zO ⟨L,H,I,h⟩
def aJ (D:kh X st t)(G:ki X rest u):ki X (st::rest) (Eu t u):=by
 intro ac s L H af I h;refine wpAny_execs_cons (bC (D s L H {af with a7:=u af} I h) λ f al q=>?_);cases f with
 |next=>obtain⟨cf,J,hU,q⟩:=q;exact G al cf J af hU q
 |ret v=>exact q
 |brk=>exact q
 |cont=>exact q
def aN (D:kh X st t):ki X [st] t:=by
 intro ac s L H af I h;refine wpAny_execs_cons (bC (D s L H af I h) λ f al q=>?_);cases f with
 |next=>exact zO q
 |ret v=>exact q
 |brk=>exact q
 |cont=>exact q
def Inv.quiet (I:Inv X ac L H s):interactive X.env=false:=by simp[interactive,I.ok.kind]
def WX (cc:TE):g6:=λ af L H=>cc L H λ _ H1=>af.a7 L H1
def eY (a3:a9 X e cc)(au:swapsWith e none pos.line X.env=pure false:=by rfl):kh X (.Expr e pos) (WX cc):=by intro ac s L H _ I h;exact wpAny_Expr_any (bC (a3 s L H _ I h) λ _ _ ⟨_,H1,a4,_,q1⟩=>⟨L,H1,a4,q1⟩) I.quiet au
def xb (cc:TE):g6:=λ af L H=>cc L H af.nM
def a6 (a3:a9 X e cc):kh X (.Return (some e) pos) (xb cc):=by intro ac s L H _ I h;exact wpAny_Return_some (bC (a3 s L H _ I h) λ _ _ ⟨x,H1,a4,b0,q1⟩=>⟨x,L,H1,a4,b0,q1⟩)
def ON (c:TT)(t u:g6):g6:=λ af L H=>c L H λ b H1=>if b=true then t af L H1 else u af L H1
def cb (ak:kg X c lG)(az:ki X a t)(Y:ki X b u):kh X (.If c a b pos) (ON lG t u):=by
 intro ac s L H af I h;refine wpAny_If (bC (ak s L H _ I h) λ d al ⟨H1,a4,q1⟩=>?_);cases d with
 |true=>exact az al L H1 af a4 q1
 |false=>exact Y al L H1 af a4 q1
def WY:g6:=λ _ _ _=>False
def WZ:kh X st WY:=λ _ _ _ _ _ _ h=>h.elim
end
abbrev jE:=V->St->aP->(St->aP->Prop)->Prop
abbrev xc:=List V->St->aP->(St->aP->Prop)->Prop
def lH (X:bE)(xd:Expr)(t:jE):Prop:=∀⦃ac⦄ s L H v u Q,Inv X ac L H s->RelV v u->t v L H Q->⇑4 (assign xd X.env u) (λ _ aV=>∃cf J,Inv X ac cf J aV/\Q cf J) X.dG s
def Aa (X:bE)(W0:List Expr)(t:xc):Prop:=∀⦃ac⦄ s L H vs us Q,Inv X ac L H s->Vals vs us->t vs L H Q->⇑4 (assignInOrder ((assignEach W0 X.env).map (·.2)) us) (λ _ aV=>∃cf J,Inv X ac cf J aV/\Q cf J) X.dG s
abbrev Ev:=V->V->V->aP->(aP->Prop)->Prop
def OO (X:bE)(t:Ev):Prop:=∀⦃ac⦄ s L H o i v eM lI u Q,Inv X ac L H s->RelV o eM->RelV i lI->RelV v u->t o i v H Q->⇑4 (setItem eM lI u) (λ _ aV=>∃J,Inv X ac L J aV/\Q J) X.dG s
section
variable{X:bE}{pos:Pos}
def mF (i:Nat):jE:=λ v L H Q=>Q (L.set i (some v)) H
def gF (d6:X.N.Nodup)(aj:X.N[i]?=some x)(aa:Loc X.env.scope x)(aS:X.fn x=true\/X.env.scope.names.lookup x=some .local:=by nofun):lH X (.Name x pos) (mF i):=by intro ac s L H v u Q I r h;exact wpAny_assign_Name (OG I d6 aj aa r (λ aV hU=>⟨_,H,hU,h⟩) aS)
def Ew:xc:=λ vs L H Q=>vs=[]/\Q L H
inductive tT(t:jE)(u:xc)(vs:List V)(L:St)(H:aP)(Q:St->aP->Prop):Prop|mk v r:vs=v::r->(t v L H λ cf J=>u r cf J Q)->tT t u vs L H Q
def OP:Aa X [] Ew:=by intro _ _ L H _ _ _ I r h;obtain⟨e,h⟩:=h;subst e;cases r;exact assignInOrder_nil ⟨L,H,I,h⟩
def xe (D:lH X e t)(G:Aa X ae u)
  (au:(assignEach (e::ae) X.env).map (·.2)=assign e X.env::(assignEach ae X.env).map (·.2):=by rfl):Aa X (e::ae) (tT t u):=by
 intro ac s L H _ _ Q I r h;obtain⟨_,_,ap,h⟩:=h;subst ap;cases r with
 |cons r rJ=>rw[au];refine assignInOrder_cons (bC (D s L H _ _ _ I r h) λ _ al ⟨tU,H1,a4,q1⟩=>?_);exact G al tU H1 _ _ Q a4 rJ q1
inductive Ex(K:Frag)(n:Nat)(t:xc)(v:V)(L:St)(H:aP)(Q:St->aP->Prop):Prop|mk a xs:v=.ref a->dh K H a xs->xs.length=n->t xs L H Q->Ex K n t v L H Q
def OQ (ak:X.calm=true)(h:Aa X ae t)
  (aB:(assignEach ae X.env).length=n:=by rfl) (mG:(assignEach ae X.env).findIdx? (·.1)=none:=by rfl):lH X (.Tuple ae k pos) (Ex X.K n t):=by
 intro ac s L H _ _ Q I r hw;obtain⟨_,xs,ap,aK,ah,hw⟩:=hw;subst ap;cases r;obtain⟨_,cv,a_,_⟩:=I.tuple aK;refine assign_Tuple_tuple (I.ok.hd ak) a_ (by simp[aB,<-ah,cv.length]) mG λ _ aa=>?_;have a4:=I.kept (t':=s.toks) λ b o e=>aa b o (er (c2 e)) e;exact h _ L H xs _ Q a4 ↥cv hw
def W2 (dP tV:TE)(t:Ev):jE:=λ v L H Q=>dP L H λ o H1=>tV L H1 λ i aE=>t o i v aE λ bj=>Q L bj
def OR {o i:Expr}{dP tV:TE}{t:Ev}(aT:a9 X o dP)(aj:a9 X i tV)(au:OO X t)
  (az:∀v,assign (.Subscript o i pos) X.env v=(do
   let eM<-holding [v] (eval o X.env)
   let lI<-holding [v,eM] (eval i X.env)
   standAt pos
   holding [v,eM,lI] (setItem eM lI v)
   release [v,eM,lI] []):=by intro _;rfl):lH X (.Subscript o i pos) (W2 dP tV t):=by
 intro ac s L H v u _ I r h;rw[az];refine aL (hs (bC (aT s L H _ I h) λ eM al ⟨x,H1,a4,b0,q1⟩=>?_));refine aL (hs (bC (aj al L H1 _ a4 q1) λ lI aq ⟨y,aE,b8,de,bb⟩=>?_));refine aL (zU (aL (hs (bC (au aq L aE x y v eM lI u _ b8 b0 de r bb) λ _ _ ⟨bj,dM,eF⟩=>?_))));exact wpAny_release ⟨L,bj,dM,eF⟩
def xf (cc:TE)(g:jE):g6:=λ af L H=>cc L H λ x H1=>g x L H1 af.a7
def OS (a3:a9 X e cc)(bL:lH X dZ g)(au:swapsWithSole [dZ] e pos.line X.env=pure false:=by rfl)(hw:swappedStores [dZ] e X.env=pure none:=by rfl)
  (D:(assignEach [dZ] X.env).map (·.2)=[assign dZ X.env]:=by rfl):kh X (.Assign [dZ] e pos) (xf cc g):=by
 intro ac s L H _ I h;refine wpAny_Assign_stores (bC (a3 s L H _ I h) λ v al ⟨x,H1,a4,b0,q1⟩=>?_) au hw;rw[D];exact bC (bL al L H1 x v _ a4 b0 q1) λ _ _ q=>q
def tW (d6:X.N.Nodup)(aj:X.N[i]?=some x)(aa:Loc X.env.scope x)(a3:a9 X e cc)(au:swapsWith e (some (.Name x lE)) pos.line X.env=pure false:=by rfl)(aS:X.fn x=true\/X.env.scope.names.lookup x=some .local:=by nofun):
  kh X (.Assign [.Name x lE] e pos) (xf cc (mF i)):=by
 intro ac s L H af I h;refine wpAny_Assign_Name (bC (a3 s L H _ I h) λ v al ⟨y,H1,a4,b0,q1⟩=>?_) au;exact OG a4 d6 aj aa b0 (λ aq b8=>⟨_,H1,b8,q1⟩) aS
inductive W3(c:TT)(dd:g6)(af:Ends)(L:St)(H:aP):Prop|mk (W:Nat->St->aP->Prop):(∃m,W m L H)->(∀m L H,W m L H-> c L H λ b H1=>if b=true then ∃N:St->aP->Prop,(∀cf J,N cf J->∃cP,cP<m/\W cP cf J)/\dd {af with a7:=N,es:=N,jD:=af.a7} L H1 else af.a7 L H1)->W3 c dd af L H
def Ey (ar:PassesOwn (model X.prog X.w) X.A X.env X.dG)(ak:kg X c lG)(Y:ki X body dd):kh X (.While c body [] pos) (W3 lG dd):=by
 intro ac s L H af I h;obtain⟨W,⟨xg,cB⟩,rK⟩:=h;refine wpAny_While (codeAny_whileLoop (λ n aV=>∃cf J,Inv X ac cf J aV/\W n cf J) ?_ xg ⟨L,H,I,cB⟩);rintro n al ⟨tU,H1,a4,cC⟩;refine rr ar (bC (ak al tU H1 _ a4 (rK n tU H1 cC)) λ b aq ⟨aE,b8,bb⟩=>?_);cases b with
 |true=>
  obtain⟨N,d6,bb⟩:=bb;rw[aA z];refine rr ar (bC (Y aq tU aE _ b8 bb) λ f aO eF=>?_);cases f with
  |next=>obtain⟨mH,bj,dM,dN⟩:=eF;obtain⟨cP,hm,cF⟩:=d6 mH bj dN;exact⟨cP,hm,mH,bj,dM,cF⟩
  |cont=>obtain⟨mH,bj,dM,dN⟩:=eF;obtain⟨cP,hm,cF⟩:=d6 mH bj dN;exact⟨cP,hm,mH,bj,dM,cF⟩
  |brk=>exact eF
  |ret v=>exact eF
 |false=>rw[ay eo];exact zO ⟨tU,aE,b8,bb⟩
end
structure qa where
 go:Nat->aP->Prop
 nP:Nat->aP->V->aP->Prop
 stop:Nat->aP->Prop
def lJ (X:bE)(ac:List (Addr×Obj))(H:aP)(b:Addr):Prop:=H b=none/\b≠X.env.locals/\b∉X.bT/\(b∈X.ex\/X.hx.heap.objs.size<=b)/\(∀x c,X.env.cells.lookup x=some c->c≠b)/\∀p∈X.kU++ac,p.1≠b
def Inv.tX (I:Inv X ac L H s)(Y:⇑s<=b)(aB:J b=none):lJ X ac J b:=by
 refine⟨aB,p7 (hp I.lt Y),I.WE Y,.inr (cK I.tO Y),λ x c e B=>?_,λ p ar B=>?_⟩
 ·obtain⟨_,q⟩:=I.cell x c e;exact absurd (hp q.lt (by rw[B];exact Y)) (kc _)
 ·exact absurd (hp (c2 (I.pin p ar).1) (by rw[B];exact Y)) (kc _)
structure Turn (P:Program)(w:World)(K:Frag)(dZ:Expr)(eg:qa)(b2:List Addr)(bP:Addr)(g9:Nat->Heap->Prop):Prop where
 mem:bP∈b2
 obj:∀i h,g9 i h->∀b∈b2,∃o,h.get? b=some o/\∀v,o.data≠.cell v
 keep:∀i h h',g9 i h->(∀b∈b2,∀o,h.get? b=some o->h'.get? b=some o)->g9 i h'
 item:∀(X:bE),X.prog=P->X.w=w->X.K=K->X.calm=true->∀(i:Nat)(ac:List (Addr×Obj))(s:Shared)(L:St)(H:aP)(E:Value->Shared->Prop),Inv X ac L H s->(∀b∈b2,lJ X ac H b)->g9 i s.heap->eg.go i H->
  wpAny (model P w) X.A (pyNext (.ref bP)) (λ r al=>∃u,r=some u/\
   wpAny (model P w) X.A (letOwnedTupleGo dZ (.ref bP) u) (λ _ aq=>∃x J,Inv X ac L J aq/\RelV x u/\eg.nP i H x J/\g9 (i+1) aq.heap/\∀b∈b2,J b=none) E al) E s
 done:∀(X:bE),X.prog=P->X.w=w->X.K=K->X.calm=true->∀(i:Nat)(ac:List (Addr×Obj))(s:Shared)(L:St)(H:aP)(E:Value->Shared->Prop),Inv X ac L H s->(∀b∈b2,lJ X ac H b)->g9 i s.heap->eg.stop i H->
  wpAny (model P w) X.A (pyNext (.ref bP)) (λ r al=>r=none/\Inv X ac L H al) E s
 self:∀(A:Around)(i:Nat)(s:Shared)(Q:Value->Shared->Prop)(E:Value->Shared->Prop),g9 i s.heap->Q (.ref bP) s->wpAny (model P w) A (pyIter (.ref bP)) Q E s
abbrev TI:=St->aP->(qa->aP->Prop)->Prop
inductive OT(X:bE)(ac:List (Addr×Obj))(L:St)(dZ:Expr)(R:qa->aP->Prop)(Ez:Value)(aq:Shared):Prop|mk bP b2 g9 eg J:Ez=.ref bP->Inv X ac L J aq->Turn X.prog X.w X.K dZ eg b2 bP g9->g9 0 aq.heap->(∀b∈b2,lJ X ac J b)->R eg J->OT X ac L dZ R Ez aq
def nQ (X:bE)(dZ iter:Expr)(ja:TI):Prop:=∀⦃ac⦄ s L H R,Inv X ac L H s->ja L H R->⇑4 (eval iter X.env) (λ v al=>⇑4 (pyIter v) (OT X ac L dZ R) X.dG al) X.dG s
def EA (aT:s.heap.get? bP=some o)(ak:o.cls=.type n)(hd:o.data=.fields vs)
  (aB:["enumerate","zip","dict_itemiterator","dict_reverseitemiterator","odict_iterator","itertools.zip_longest","itertools.pairwise"].contains n=false) (gD:Q () s):wpAny dU A (letOwnedTupleGo dZ (.ref bP) u) Q E s:=by
 unfold letOwnedTupleGo;cases dZ<;>first
  |exact bq gD
  |(cases u<;>first
    |exact bq gD
    |(refine aL (zX aT ?_)
      rw[ak,hd];show wpAny dU A (if (["enumerate","zip","dict_itemiterator","dict_reverseitemiterator","odict_iterator","itertools.zip_longest","itertools.pairwise"].contains n&&vs[0]?==some (rawInt _))=true then _ else _) Q E s;rw[ay (by intro h;rw[aB,zL] at h;cases h)];exact bq gD))
def qb (K:Frag)(a:Addr):qa:=⟨λ i H=>∃xs x,aG K H a xs/\xs[i]?=some x,λ i H x J=>J=H/\∀xs,aG K H a xs->xs[i]?=some x,λ i H=>∃xs,aG K H a xs/\xs.length<=i⟩
def qc (K:Frag)(a:Addr):qa:=⟨λ i H=>∃xs x,dh K H a xs/\xs[i]?=some x,λ i H x J=>J=H/\∀xs,dh K H a xs->xs[i]?=some x,λ i H=>∃xs,dh K H a xs/\xs.length<=i⟩
def W4 {P:Program}{w:World}{K:Frag}{dZ:Expr}(a bP:Addr):Turn P w K dZ (qb K a) [bP] bP (λ i h=>h.IsListIter bP a i) where
 mem:=by simp
 obj:=λ i h st b Y=>by
  have e:b=bP:=by simpa using Y
  subst e;obtain⟨o,e,c,d⟩:=st;exact⟨o,e,λ _ B=>by rw[d] at B;cases B⟩
 keep:=λ i h h' st k=>st.at λ o e=>k bP ⇑2 o e
 item:=by intro X dH hw fA ak i ac s L H E I aS st bL;subst dH hw fA;obtain⟨xs,x,aK,aa⟩:=bL;obtain⟨aR,cv,p,hz⟩:=I.list aK;obtain⟨u,a1,gS⟩:=cv.get aa;obtain⟨gG,e',eZ,eh,fl,gH⟩:=aS bP ⇑2;refine Ob st p.isList (x:=u) ↥a1 λ h' it d8=>?_;have a4:=I.turned (t':=s.toks) (λ b o Y e=>(d8.2 b Y).trans e) gG e' eh fl gH;obtain⟨o,e,c,d⟩:=id it;exact⟨u,z,EA (s:={s with heap:=h'}) e c d ⇑0 ⟨x,H,a4,gS,⟨z,λ _ aC=>by rw[I.z' aC aK];exact aa⟩,it,λ b Y=>(aS b Y).1⟩⟩
 done:=by intro X dH hw fA ak i ac s L H E I aS st bL;subst dH hw fA;obtain⟨xs,aK,aa⟩:=bL;obtain⟨aR,cv,p,hz⟩:=I.list aK;obtain⟨gG,e',eZ,eh,fl,gH⟩:=aS bP ⇑2;have ah:=cv.length;exact Ol (I.ok.hd ak) st p.isList (by simp;omega) λ h' di=>⟨z,I.turned (t':=s.toks) (λ b o Y e=>di b o Y e) gG e' eh fl gH⟩
 self:=λ _ _ _ _ _ st h=>wpAny_pyIter_listiter st h
def W5 {P:Program}{w:World}{K:Frag}{dZ:Expr}(a bP:Addr):Turn P w K dZ (qc K a) [bP] bP (λ i h=>h.IsTupleIter bP a i) where
 mem:=by simp
 obj:=λ i h st b Y=>by
  have e:b=bP:=by simpa using Y
  subst e;obtain⟨o,e,c,d⟩:=st;exact⟨o,e,λ _ B=>by rw[d] at B;cases B⟩
 keep:=λ i h h' st k=>st.at λ o e=>k bP ⇑2 o e
 item:=by intro X dH hw fA ak i ac s L H E I aS st bL;subst dH hw fA;obtain⟨xs,x,aK,aa⟩:=bL;obtain⟨aR,cv,p,hz⟩:=I.tuple aK;obtain⟨u,a1,gS⟩:=cv.get aa;obtain⟨gG,e',eZ,eh,fl,gH⟩:=aS bP ⇑2;refine wpAny_pyNext_tuple_item st (show s.heap.IsTuple a aR.toArray from p) (x:=u) ↥a1 λ h' it d8=>?_;have a4:=I.turned (t':=s.toks) (λ b o Y e=>(d8.2 b Y).trans e) gG e' eh fl gH;obtain⟨o,e,c,d⟩:=id it;exact⟨u,z,EA (s:={s with heap:=h'}) e c d ⇑0 ⟨x,H,a4,gS,⟨z,λ _ aC=>by rw[I.WW aC aK];exact aa⟩,it,λ b Y=>(aS b Y).1⟩⟩
 done:=by intro X dH hw fA ak i ac s L H E I aS st bL;subst dH hw fA;obtain⟨xs,aK,aa⟩:=bL;obtain⟨aR,cv,p,hz⟩:=I.tuple aK;obtain⟨gG,e',eZ,eh,fl,gH⟩:=aS bP ⇑2;have ah:=cv.length;exact wpAny_pyNext_tuple_end (I.ok.hd ak) st (show s.heap.IsTuple a aR.toArray from p) (by simp;omega) λ h' di=>⟨z,I.turned (t':=s.toks) (λ b o Y e=>di b o Y e) gG e' eh fl gH⟩
 self:=λ _ _ _ _ _ st h=>wpAny_pyIter_tupleiter st h
section
variable{X:bE}{dZ:Expr}
inductive W6j(K:Frag)(R:qa->aP->Prop)(x:V)(H1:aP):Prop|mk a:x=.ref a->(∃xs,aG K H1 a xs)->R (qb K a) H1->W6j K R x H1
def W6 (K:Frag)(bl:TE):TI:=λ L H R=>bl L H (W6j K R)
inductive W7j(K:Frag)(R:qa->aP->Prop)(x:V)(H1:aP):Prop|mk a:x=.ref a->(∃xs,dh K H1 a xs)->R (qc K a) H1->W7j K R x H1
def W7 (K:Frag)(bl:TE):TI:=λ L H R=>bl L H (W7j K R)
def eN (ah:a9 X l bl):nQ X dZ l (W6 X.K bl):=by
 intro ac s L H _ I h;refine bC (ah s L H _ I h) λ _ al ⟨_,H1,a4,b0,q1⟩=>?_;obtain⟨a,e,⟨_,aK⟩,q⟩:=q1;subst e;cases b0;obtain⟨_,_,p,_⟩:=a4.list aK;refine p1 p.isList ?_;refine⟨⇑al,[⇑al],_,_,H1,z,a4.kept (t':=al.toks) λ b _ e=>dq _ e,W4 a _,⟨_,eU _ z,z,z⟩,λ b Y=>?_,q⟩;have e:b=⇑al:=by simpa using Y
 subst e;exact a4.tX (bG _) (a4.bi.fresh (bG _))
def Ab (ah:a9 X l bl):nQ X dZ l (W7 X.K bl):=by
 intro ac s L H _ I h;refine bC (ah s L H _ I h) λ _ al ⟨_,H1,a4,b0,q1⟩=>?_;obtain⟨a,e,⟨_,aK⟩,q⟩:=q1;subst e;cases b0;obtain⟨aR,_,p,_⟩:=a4.tuple aK;refine wpAny_pyIter_tuple (show al.heap.IsTuple a aR.toArray from p) ?_;refine⟨⇑al,[⇑al],_,_,H1,z,a4.kept (t':=al.toks) λ b _ e=>dq _ e,W5 a _,⟨_,eU _ z,z,z⟩,λ b Y=>?_,q⟩;have e:b=⇑al:=by simpa using Y
 subst e;exact a4.tX (bG _) (a4.bi.fresh (bG _))
def W8 (ja:TI)(g:jE)(dd:g6):g6:=λ af L H=>ja L H λ eg H1=>∃W:Nat->Nat->St->aP->Prop,(∃m,W 0 m L H1)/\∀i m L H,W i m L H->
 (eg.stop i H/\af.a7 L H)\/(eg.go i H/\∃N:St->aP->Prop,(∀cf J,N cf J->∃cP,cP<m/\W (i+1) cP cf J)/\∀x J,eg.nP i H x J->g x L J λ c' aE=>dd {af with a7:=N,es:=N,jD:=af.a7} c' aE)
def xh (b2:List Addr)(h:Heap):List (Addr×Obj):=b2.filterMap λ b=>(h.get? b).map λ o=>(b,o)
def EB (Y:b∈b2)(e:h.get? b=some o):(b,o)∈xh b2 h:=zF.mpr ⟨b,Y,by rw[e];rfl⟩
def W9 (ar:p∈xh b2 h):p.1∈b2/\h.get? p.1=some p.2:=by
 obtain⟨b,Y,e⟩:=zF.mp ar;cases q:h.get? b with
 |none=>rw[q] at e;cases e
 |some o=>rw[q] at e;have bW:=eV e;subst bW;exact⟨Y,q⟩
def Inv.pinned (I:Inv X ac L H s)(aS:∀b∈b2,lJ X ac H b)(aT:∀b∈b2,∃o,s.heap.get? b=some o/\∀v,o.data≠.cell v):Inv X (ac++xh b2 s.heap) L H s:=
 I.OA λ p ar=>(eJ.mp ar).elim (λ B=>I.pin p (pW _ B)) λ B=>by obtain⟨Y,e⟩:=W9 B;obtain⟨gG,e',eZ,_⟩:=aS p.1 Y;obtain⟨o,bW,d⟩:=aT p.1 Y;rw[e] at bW;cases bW;exact⟨e,gG,e',eZ,d⟩
def Inv.Ac (I:Inv X (ac++pl) L H s):Inv X ac L H s:=I.OA λ p ar=>I.pin p (pW _ (rj _ ar))
def gs (ar:PassesOwn (model X.prog X.w) X.A X.env X.dG)(ak:X.calm=true)(aj:nQ X dZ iter ja)(bL:lH X dZ g)(Y:ki X body dd)
  (au:∀x,foldedSetIterable iter X.env x=pure x:=by intro _;rfl):kh X (.For dZ iter body [] pos) (W8 ja g dd):=by
 intro ac s L H af I h;refine wpAny_For (bC (aj s L H _ I h) λ v al D=>bC D λ Ez aq G=>?_) au;obtain⟨bP,b2,g9,eg,aE,e,b8,T,mI,eZ,W,⟨xg,cB⟩,rK⟩:=G;subst e;have rL:∀{J:aP},(∀b∈b2,J b=none)->∀b∈b2,lJ X ac J b:=λ aB b Y=>⟨aB b Y,(eZ b Y).2⟩;refine codeAny_forLoop_any (λ n aV=>∃i cf J,Inv X ac cf J aV/\g9 i aV.heap/\(∀b∈b2,J b=none)/\W i n cf J) ?_ xg ⟨0,L,aE,b8,mI,λ b Y=>(eZ b Y).1,cB⟩;rintro n aO ⟨i,mH,bj,dM,Ad,OU,cF⟩;rcases rK i n mH bj cF with⟨stop,W_⟩|⟨go,N,d6,step⟩
 ·refine rr ar (bC (T.done X z z z ak i ac aO mH bj X.dG dM (rL OU) Ad stop) λ r bh ⟨ab,jb⟩=>?_);subst ab;exact zO ⟨mH,bj,jb,W_⟩
 ·refine rr ar (bC (T.item X z z z ak i ac aO mH bj X.dG dM (rL OU) Ad go) λ r bh ⟨u,ab,aU⟩=>?_);subst ab;refine rr ar (bC aU λ _ ck ⟨x,eO,tY,W',Xa,tZ,Xb⟩=>?_);have Xc:=tY.pinned (rL Xb) (T.obj _ _ tZ);refine rr ar (bC (bL ck mH eO x u _ Xc W' (step x eO Xa)) λ _ cm ⟨Xd,fI,qd,kW⟩=>?_);refine rr ar (bC (Y cm Xd fI _ qd kW) λ f ei iP=>?_);have again:∀{mJ:St}{g_:aP},Inv X (ac++xh b2 ck.heap) mJ g_ ei->N mJ g_->∃m,m<n/\∃i cf J,Inv X ac cf J ei/\g9 i ei.heap/\(∀b∈b2,J b=none)/\W i m cf J:=λ {mJ g_} jc mK=>by obtain⟨cP,hm,rM⟩:=d6 mJ g_ mK;refine⟨cP,hm,i+1,mJ,g_,jc.Ac,T.keep _ _ _ tZ λ b Y o e=>(jc.pin (b,o) (pW _ (pW _ (EB Y e)))).1,λ b Y=>?_,rM⟩;obtain⟨o,e,d⟩:=T.obj _ _ tZ b Y;exact(jc.pin (b,o) (pW _ (pW _ (EB Y e)))).2.1
  cases f with
  |next=>obtain⟨mJ,g_,jc,mK⟩:=iP;exact again jc mK
  |cont=>obtain⟨mJ,g_,jc,mK⟩:=iP;exact again jc mK
  |brk=>obtain⟨mJ,g_,jc,iP⟩:=iP;exact⟨mJ,g_,jc.Ac,iP⟩
  |ret v=>obtain⟨Xe,mJ,g_,jc,EC,iP⟩:=iP;exact⟨Xe,mJ,g_,jc.Ac,EC,iP⟩
end
def ha {K:Frag}{g:jE}{dd:g6}{af:Ends}(Pv:Nat->St->aP->Prop)(aX:Pv 0 L H)(ah:∀i L H,i<=xs.length->Pv i L H->aG K H a xs)
  (au:∀i x L H,xs[i]?=some x->Pv i L H->let A:Ends:={af with a7:=Pv (i+1),es:=Pv (i+1),jD:=af.a7};g x L H (dd A)) (hd:∀L H,Pv xs.length L H->af.a7 L H):
  ∃W:Nat->Nat->St->aP->Prop,(∃m,W 0 m L H)/\∀i m L H,W i m L H->
   ((qb K a).stop i H/\af.a7 L H)\/((qb K a).go i H/\∃N:St->aP->Prop,(∀cf J,N cf J->∃cP,cP<m/\W (i+1) cP cf J)/\∀x J,(qb K a).nP i H x J->g x L J λ c' aE=>dd {af with a7:=N,es:=N,jD:=af.a7} c' aE):=by
 refine⟨λ i m L H=>m=xs.length - i/\i<=xs.length/\Pv i L H,⟨xs.length,⇑2,cQ _,aX⟩,?_⟩;rintro i m L H ⟨rfl,aj,p⟩;have q:=ah i L H aj p;by_cases c6:i<xs.length
 ·refine .inr ⟨⟨xs,xs[i],q,by simp[c6]⟩,Pv (i+1),λ cf J fN=>⟨xs.length - (i+1),⇑1,z,c6,fN⟩,λ x J y=>?_⟩;obtain⟨e,y⟩:=y;subst e;exact au i x L _ (y xs q) p
 ·have e:i=xs.length:=by omega
  subst e;exact .inl ⟨⟨xs,q,bG _⟩,hd L H p⟩
def ED {K:Frag}{g:jE}{dd:g6}{af:Ends}(Pv:Nat->St->aP->Prop)(aX:Pv 0 L H)(ah:∀i L H,i<=xs.length->Pv i L H->dh K H a xs)
  (au:∀i x L H,xs[i]?=some x->Pv i L H->g x L H λ c' aE=>dd {af with a7:=Pv (i+1),es:=Pv (i+1),jD:=af.a7} c' aE) (hd:∀L H,Pv xs.length L H->af.a7 L H):
  ∃W:Nat->Nat->St->aP->Prop,(∃m,W 0 m L H)/\∀i m L H,W i m L H->
   ((qc K a).stop i H/\af.a7 L H)\/((qc K a).go i H/\∃N:St->aP->Prop,(∀cf J,N cf J->∃cP,cP<m/\W (i+1) cP cf J)/\∀x J,(qc K a).nP i H x J->g x L J λ c' aE=>dd {af with a7:=N,es:=N,jD:=af.a7} c' aE):=by
 refine⟨λ i m L H=>m=xs.length - i/\i<=xs.length/\Pv i L H,⟨xs.length,⇑2,cQ _,aX⟩,?_⟩;rintro i m L H ⟨rfl,aj,p⟩;have q:=ah i L H aj p;by_cases c6:i<xs.length
 ·refine .inr ⟨⟨xs,xs[i],q,by simp[c6]⟩,Pv (i+1),λ cf J fN=>⟨xs.length - (i+1),⇑1,z,c6,fN⟩,λ x J y=>?_⟩;obtain⟨e,y⟩:=y;subst e;exact au i x L _ (y xs q) p
 ·have e:i=xs.length:=by omega
  subst e;exact .inl ⟨⟨xs,q,bG _⟩,hd L H p⟩
abbrev hV:=V->V->aP->d7->Prop
def gt (X:bE)(f:Value->Value->Sem Value)(r:hV):Prop:=∀⦃ac⦄ s L H x y v u Q,Inv X ac L H s->RelV x v->RelV y u->r x y H Q->⇑4 (f v u) (g7 X ac L Q) X.dG s
def EE (X:bE)(f:Value->Sem Value)(r:V->aP->d7->Prop):Prop:=∀⦃ac⦄ s L H x v Q,Inv X ac L H s->RelV x v->r x H Q->⇑4 (f v) (g7 X ac L Q) X.dG s
def jF (X:bE)(f:Value)(r:List V->aP->d7->Prop):Prop:=∀⦃ac⦄ s L H xs us Q,Inv X ac L H s->Vals xs us->r xs H Q->⇑4 (call f us) (g7 X ac L Q) X.dG s
def o3 (r:hV)(bx dd:TE):TE:=λ L H Q=>bx L H λ x H1=>dd L H1 λ y aE=>r x y aE Q
def Xf (r:V->aP->d7->Prop)(bx:TE):TE:=λ L H Q=>bx L H λ x H1=>r x H1 Q
inductive OV(C:Int->Int->Prop)(g:Int->Int->V)(x y:V)(H:aP)(Q:d7):Prop|mk i j:x=.int i->y=.int j->C i j->Q (g i j) H->OV C g x y H Q
inductive mL(g:Int->Int->V)(x y:V)(H:aP)(Q:d7):Prop|mk i j:x=.int i->y=.int j->Q (g i j) H->mL g x y H Q
inductive OW(g:Int->V)(x:V)(H:aP)(Q:d7):Prop|mk i:x=.int i->Q (g i) H->OW g x H Q
section
variable{X:bE}{a b c:Expr}{bx dd lG:TE}{pos:Pos}
def EF (az:a9 X a bx)(Y:a9 X b dd){R:V->V->aP->Prop}(I:Inv X ac L H s)
  (h:bx L H λ x H1=>dd L H1 λ y aE=>R x y aE) {f:Value->Value->Sem Value}
  (aS:∀v u aq x y aE,Inv X ac L aE aq->RelV x v->RelV y u->R x y aE->⇑4 (f v u) Q X.dG aq):
  ⇑4 (eval a X.env) (λ v dA=>⇑4 (eval b X.env) (λ u ir=>⇑4 (f v u) Q X.dG ir) X.dG dA) X.dG s:=by
 refine bC (az s L H _ I h) λ v al ⟨x,H1,a4,b0,q1⟩=>?_;refine bC (Y al L H1 _ a4 q1) λ u aq ⟨y,aE,b8,de,bb⟩=>?_;exact aS v u aq x y aE b8 b0 de bb
def e0 (aT:gt X (binaryOp op) r)(az:a9 X a bx)(Y:a9 X b dd):a9 X (.BinOp a op b pos) (o3 r bx dd):=by intro ac _ L _ Q I h;exact wpAny_BinOp (EF az Y I h λ v u aq x y aE b8 bt bo q=>aT aq L aE x y v u Q b8 bt bo q)
def t0 (aT:EE X (unaryOp op) r)(az:a9 X a bx):a9 X (.UnaryOp op a pos) (Xf r bx):=by intro ac s L H Q I h;exact UnaryOp_ (bC (az s L H _ I h) λ v al ⟨x,H1,a4,b0,q1⟩=>aT al L H1 x v Q a4 b0 q1)
def Xg {g:Int->Int->Int}(rule:∀i j t u s Q E,C i j->Q (.int (g i j) s.toks) {s with toks:=s.toks+1}->⇑4 (f (.int i t) (.int j u)) Q E s):gt X f (OV C λ i j=>.int (g i j)):=by intro _ s _ H _ _ _ u Q I bt bo h;obtain⟨i,j,rfl,rfl,ak,q⟩:=h;obtain⟨t,rfl⟩:=bt;obtain⟨t',rfl⟩:=bo;exact rule i j t t' s _ _ ak ⟨.int (g i j),H,I.tok _,⟨_,z⟩,q⟩
def OX {g:Int->Int->Int}(rule:∀i j t u s Q E,Q (.int (g i j) s.toks) {s with toks:=s.toks+1}->⇑4 (f (.int i t) (.int j u)) Q E s):gt X f (mL λ i j=>.int (g i j)):=by intro _ s _ H _ _ _ u Q I bt bo h;obtain⟨i,j,rfl,rfl,q⟩:=h;obtain⟨t,rfl⟩:=bt;obtain⟨t',rfl⟩:=bo;exact rule i j t t' s _ _ ⟨.int (g i j),H,I.tok _,⟨_,z⟩,q⟩
def Ae {g:Int->Int->Bool}(rule:∀i j t u s Q E,Q (.bool (g i j)) s->⇑4 (f (.int i t) (.int j u)) Q E s):gt X f (mL λ i j=>.bg (g i j)):=by intro _ s _ H _ _ _ u Q I bt bo h;obtain⟨i,j,rfl,rfl,q⟩:=h;obtain⟨t,rfl⟩:=bt;obtain⟨t',rfl⟩:=bo;exact rule i j t t' s _ _ ⟨.bg (g i j),H,I,z,q⟩
def Xh (i j:Int):Prop:=0<j/\j<1073741824
def rN:gt X (binaryOp .Add) (mL λ i j=>.int (i+j)):=OX λ _ _ _ _ _ _ _ q=>add_int q
def o4:gt X (binaryOp .Sub) (mL λ i j=>.int (i - j)):=OX λ _ _ _ _ _ _ _ q=>sub_int q
def Xi:gt X (binaryOp .FloorDiv) (OV Xh λ i j=>.int (i / j)):=Xg λ i j _ _ _ _ _ ak q=>by have D:(0:Int)<j:=ak.1;have G:j<1073741824:=ak.2;exact floordiv_int ⇑1 (by rw[Int.fdiv_eq_ediv_of_nonneg i ⇑1];exact q) (.inl (PyProof.noPylong_small ⇑1))
def Xj {g:Int->Int}(rule:∀i t s Q E,Q (.int (g i) s.toks) {s with toks:=s.toks+1}->⇑4 (f (.int i t)) Q E s):EE X f (OW λ i=>.int (g i)):=by intro _ s _ H _ _ Q I bt h;obtain⟨i,rfl,q⟩:=h;obtain⟨t,rfl⟩:=bt;exact rule i t s _ _ ⟨.int (g i),H,I.tok _,⟨_,z⟩,q⟩
def t1:EE X (unaryOp .USub) (OW λ i=>.int (-i)):=Xj λ _ _ _ _ _ q=>neg_int q
end
def OY:V->V->Bool
 |.b6,.b6=>true|.b6,.int _=>true|.int _,.b6=>true|.b6,.bg _=>true|.bg _,.b6=>true|.b6,.str _=>true|.str _,.b6=>true
 |.int _,.int _=>true|.bg _,.bg _=>true|.str _,.str _=>true|.iM _,.iM _=>true
 |.int _,.str _=>true|.str _,.int _=>true|.bg _,.str _=>true|.str _,.bg _=>true
 |_,_=>false
def OZ:hV:=λ x y H Q=>OY x y=true/\Q (.bg (decide (x=y))) H
def Xk:hV:=λ x y H Q=>OY x y=true/\Q (.bg (!decide (x=y))) H
def O0:decide (V.int i=V.int j)=(i==j):=by rw[eW];simp
def O1:decide (V.bg i=V.bg j)=(i==j):=by rw[eW];simp
def O2:decide (V.str i=V.str j)=(i==j):=by rw[eW];simp
def O3:decide (V.iM i=V.iM j)=(i.toList==j.toList):=by rw[eW];cases i;cases j;simp
section
variable{X:bE}{a b c:Expr}{bx dd lG:TE}{pos:Pos}
def fm (I:Inv X ac L H s)(q:Q (.bg k) H)(e:k=hW):g7 X ac L Q (.bool hW) s:=by subst e;exact⟨.bg k,H,I,z,q⟩
def eG:gt X (compareOp .Eq) OZ:=by
 intro _ _ _ _ x y _ _ _ I bt bo h;obtain⟨au,q⟩:=h;cases x with
 |b6=>
  cases bt;cases y with
  |b6=>cases bo;exact PySem.EqNone.eq_none_none (fm I q ⇑2)
  |bg j=>cases bo;exact PySem.EqNone.eq_none_bool (fm I q ⇑2)
  |int j=>obtain⟨t',rfl⟩:=bo;exact PySem.EqNone.eq_none_int (fm I q ⇑2)
  |str j=>obtain⟨t',rfl⟩:=bo;exact PySem.EqNone.eq_none_str (fm I q ⇑2)
  |_=>exact absurd (show false=true from au) eo
 |bg i=>
  cases bt;cases y with
  |b6=>cases bo;exact PySem.EqNone.eq_bool_none (fm I q ⇑2)
  |bg j=>cases bo;exact eq_bool (fm I q O1)
  |str j=>obtain⟨t',rfl⟩:=bo;exact PySem.EqMixed.eq_bool_str (fm I q ⇑2)
  |_=>exact absurd (show false=true from au) eo
 |int i=>
  obtain⟨t,rfl⟩:=bt;cases y with
  |b6=>cases bo;exact PySem.EqNone.eq_int_none (fm I q ⇑2)
  |int j=>obtain⟨t',rfl⟩:=bo;exact eq_int (fm I q O0)
  |str j=>obtain⟨t',rfl⟩:=bo;exact PySem.EqMixed.eq_int_str (fm I q ⇑2)
  |_=>exact absurd (show false=true from au) eo
 |str i=>
  obtain⟨t,rfl⟩:=bt;cases y with
  |b6=>cases bo;exact PySem.EqNone.eq_str_none (fm I q ⇑2)
  |bg j=>cases bo;exact PySem.EqMixed.eq_str_bool (fm I q ⇑2)
  |int j=>obtain⟨t',rfl⟩:=bo;exact PySem.EqMixed.eq_str_int (fm I q ⇑2)
  |str j=>obtain⟨t',rfl⟩:=bo;exact eq_str (fm I q O2)
  |_=>exact absurd (show false=true from au) eo
 |iM i=>
  obtain⟨t,rfl⟩:=bt;cases y with
  |iM j=>obtain⟨t',rfl⟩:=bo;exact PySem.W.eq_bytes (fm I q O3)
  |_=>exact absurd (show false=true from au) eo
 |_=>cases y<;>exact absurd (show false=true from au) eo
def Af:gt X (compareOp .NotEq) Xk:=by
 intro _ _ _ _ x y _ _ _ I bt bo h;obtain⟨au,q⟩:=h;cases x with
 |b6=>
  cases bt;cases y with
  |b6=>cases bo;exact PySem.EqNone.ne_none_none (fm I q ⇑2)
  |bg j=>cases bo;exact PySem.EqNone.ne_none_bool (fm I q ⇑2)
  |int j=>obtain⟨t',rfl⟩:=bo;exact PySem.EqNone.ne_none_int (fm I q ⇑2)
  |str j=>obtain⟨t',rfl⟩:=bo;exact PySem.EqNone.ne_none_str (fm I q ⇑2)
  |_=>exact absurd (show false=true from au) eo
 |bg i=>
  cases bt;cases y with
  |b6=>cases bo;exact PySem.EqNone.ne_bool_none (fm I q ⇑2)
  |bg j=>cases bo;exact ne_bool (fm I q (congrArg not O1))
  |str j=>obtain⟨t',rfl⟩:=bo;exact PySem.EqMixed.ne_bool_str (fm I q ⇑2)
  |_=>exact absurd (show false=true from au) eo
 |int i=>
  obtain⟨t,rfl⟩:=bt;cases y with
  |b6=>cases bo;exact PySem.EqNone.ne_int_none (fm I q ⇑2)
  |int j=>obtain⟨t',rfl⟩:=bo;exact ne_int (fm I q (congrArg not O0))
  |str j=>obtain⟨t',rfl⟩:=bo;exact PySem.EqMixed.ne_int_str (fm I q ⇑2)
  |_=>exact absurd (show false=true from au) eo
 |str i=>
  obtain⟨t,rfl⟩:=bt;cases y with
  |b6=>cases bo;exact PySem.EqNone.ne_str_none (fm I q ⇑2)
  |bg j=>cases bo;exact PySem.EqMixed.ne_str_bool (fm I q ⇑2)
  |int j=>obtain⟨t',rfl⟩:=bo;exact PySem.EqMixed.ne_str_int (fm I q ⇑2)
  |str j=>obtain⟨t',rfl⟩:=bo;exact ne_str (fm I q (congrArg not O2))
  |_=>exact absurd (show false=true from au) eo
 |iM i=>
  obtain⟨t,rfl⟩:=bt;cases y with
  |iM j=>obtain⟨t',rfl⟩:=bo;exact PySem.W.ne_bytes (fm I q (congrArg not O3))
  |_=>exact absurd (show false=true from au) eo
 |_=>cases y<;>exact absurd (show false=true from au) eo
def nR:gt X (compareOp .Lt) (mL λ i j=>.bg (decide (i<j))):=Ae λ _ _ _ _ _ _ _ q=>lt_int q
def rO:gt X (compareOp .LtE) (mL λ i j=>.bg (decide (i<=j))):=Ae λ _ _ _ _ _ _ _ q=>le_int q
def fO:gt X (compareOp .Gt) (mL λ i j=>.bg (decide (j<i))):=Ae λ _ _ _ _ _ _ _ q=>gt_int q
def O4:gt X (compareOp .GtE) (mL λ i j=>.bg (decide (j<=i))):=Ae λ _ _ _ _ _ _ _ q=>ge_int q
def b7 (b)(h:op≠.In:=by decide)(G:op≠.NotIn:=by decide):behindInMarks op b=false:=by
 have ap:(op==CmpOp.In)=false:=by cases op<;>first|rfl|exact absurd rfl h
 have ao:(op==CmpOp.NotIn)=false:=by cases op<;>first|rfl|exact absurd rfl G
 cases b<;>simp[behindInMarks,ap,ao]
def hX (aT:gt X (compareOp op) r)(az:a9 X a bx)(Y:a9 X b dd)(hm:behindInMarks op b=false):a9 X (.Compare a [op] [b] pos) (o3 r bx dd):=by intro ac _ L _ Q I h;exact wpAny_Compare1 (EF az Y I h λ v u aq x y aE b8 bt bo q=>aT aq L aE x y v u Q b8 bt bo q) hm
def EG (t:TE):TT:=λ L H Q=>t L H (Erj Q)
def b9 (aT:gt X (compareOp op) r)(az:a9 X a bx)(Y:a9 X b dd)(hm:behindInMarks op b=false):kg X (.Compare a [op] [b] pos) (EG (o3 r bx dd)):=by
 intro ac s L H _ I h;refine Oj (bC (az s L H _ I h) λ v al ⟨x,H1,a4,b0,q1⟩=>bC (Y al L H1 _ a4 q1) λ u aq ⟨y,aE,b8,de,bb⟩=>bC (aT aq L aE x y v u _ b8 b0 de bb) λ _ _ ⟨_,bj,dM,mM,_,e,eF⟩=>?_) hm
 subst e;cases mM;exact oR ⟨bj,dM,eF⟩
inductive Xlj(eE:hV)(lG:TE)(L:St)(Q:d7)(y B:V)(bj:aP):Prop|mk k:B=.bg k->(if k=true then lG L bj λ w' b1=>eE y w' b1 Q else Q (.bg false) bj)->Xlj eE lG L Q y B bj
def Xl (r eE:hV)(bx dd lG:TE):TE:=λ L H Q=>bx L H λ x H1=>dd L H1 λ y aE=>r x y aE (Xlj eE lG L Q y)
def O5 (aT:gt X (compareOp op) r)(lC:gt X (compareOp O6) eE)(az:a9 X a bx)(Y:a9 X b dd)(ak:a9 X c lG)
  (hm:lastMarks [op,O6] [b,c]=false:=by with_unfolding_all rfl):a9 X (.Compare a [op,O6] [b,c] pos) (Xl r eE bx dd lG):=by
 intro ac s L H Q I h;refine Compare_chain (bC (az s L H _ I h) λ v al ⟨x,H1,a4,b0,q1⟩=>chain_link (bC (Y al L H1 _ a4 q1) λ u aq ⟨y,aE,b8,de,bb⟩=>bC (aT aq L aE x y v u _ b8 b0 de bb) λ _ aO ⟨_,bj,dM,mM,k,e,eF⟩=>?_)) hm
 subst e;cases mM;refine oR ?_;cases k with
 |false=>exact ite_ff ⟨.bg false,bj,dM,z,eF⟩
 |true=>exact ite_tt (chain_last (bC (ak aO L bj _ dM eF) λ w' bh ⟨w8,b1,jb,o5,qe⟩=>lC bh L b1 y w8 u w' Q jb de o5 qe))
def xi:(sizeLine:Nat)<2 ^ 63:=by rw[zW];decide
def Xm:gt X (binaryOp .Add) (λ x y H Q=>∃i j,x=.str i/\y=.str j/\i.length+j.length<=sizeLine/\Q (.str (i++j)) H):=by intro _ _ _ H x y _ _ Q I bt bo h;obtain⟨i,j,rfl,rfl,hz,q⟩:=h;obtain⟨_,rfl⟩:=bt;obtain⟨t',rfl⟩:=bo;exact add_str (λ t' _=>⟨.str (i++j),H,I.tok _,⟨_,z⟩,q⟩) hz
def vals1 (r:Vals [x] us):∃u,us=[u]/\RelV x u:=by
 cases r with
 |cons b0 de=>cases de;exact⟨_,z,b0⟩
def vals2 (r:Vals [x,y] us):∃u w',us=[u,w']/\RelV x u/\RelV y w':=by
 cases r with
 |cons b0 de=>
  cases de with
  |cons mM o5=>cases o5;exact⟨_,_,z,b0,mM⟩
def Xn:jF X (.builtin "abs") (λ xs H Q=>∃i,xs=[.int i]/\Q (.int (if i<0 then -i else i)) H):=by intro _ _ _ H xs _ Q I r h;obtain⟨i,rfl,q⟩:=h;obtain⟨u,rfl,_,rfl⟩:=vals1 r;exact call_abs_int λ u _=>⟨.int (if i<0 then -i else i),H,I.tok _,⟨_,z⟩,q⟩
def EH:jF X (.type "str") (λ xs H Q=>∃i,xs=[.int i]/\i.natAbs.log2<1920/\Q (.str (toString i)) H):=by intro _ _ _ H xs _ Q I r h;obtain⟨i,rfl,hz,q⟩:=h;obtain⟨_,rfl,_,rfl⟩:=vals1 r;exact PySem.P.str_of_int hz ⟨.str _,H,I.tok _,⟨_,z⟩,q⟩
def O7:jF X (.builtin "ord") (λ xs H Q=>∃x,xs=[.str x]/\x.length=1/\Q (.int (x.cps.getD 0 0:Nat)) H):=by intro _ _ _ H xs _ Q I r h;obtain⟨x,rfl,hz,q⟩:=h;obtain⟨_,rfl,_,rfl⟩:=vals1 r;exact ord_of_one hz ⟨.int _,H,I.tok _,⟨_,z⟩,q⟩
end
structure rP (h:Heap)(x dx C:Addr)(eC:Str->Option Value):Prop where
 obj:h.get? x=some (PySem.W.instObj C dx)
 ns:h.Ns1 dx eC
 ne:dx≠x
def Xo {h:Heap}(n:h.Ns1 dx eC):∃e9,h.get? dx=some e9/\∀name,PySem.W.lookIn name e9=some (eC name):=by
 obtain⟨o,ae,ep,aT,hd,ax,_,hm⟩:=n;refine⟨o,aT,λ name=>?_⟩;have e:=hm name;unfold nsFind findBy at e;rw[<-Array.find?_toList] at e;unfold PySem.W.lookIn;rw[hd];dsimp only;split
 ·rename_i y q;rw[q] at e;exact congrArg some e
 ·rename_i q;rw[q] at e;have a:ae.toList.any (·.refKey)=false:=by rw[DP];intro y aC;obtain⟨B,t,rQ⟩:=ax y (Array.mem_toList_iff.mp aC);simp[DictEntry.refKey,rQ]
  have Xp:¬ae.toList.any (·.refKey)=true:=by rw[a];exact eo
  rw[ay Xp];exact congrArg some e
def rP.look (I:rP h x dx C eC):∃e9,PySem.W.InstAt h x (PySem.W.instObj C dx) C (some e9)/\∀name,PySem.W.lookIn name e9=some (eC name):=
 let ⟨e9,aT,ah⟩:=Xo I.ns
 ⟨e9,⟨I.obj,z,z,aT⟩,ah⟩
section
variable{prog:Program}{w:World}{A:Around}{E:Value->Shared->Prop}{s:Shared}{K:Frag}{x dx C f:Addr}{eC:Str->Option Value}{name:Str}{v:Value}
def get_map (X:K.In s.heap)(I:rP s.heap x dx C eC)(bL:PySem.W.plainGet K C name=true)(b3:PySem.W.hasDictIn K C=true)
  (az:PySem.W.findIn K (.ref C) name=some none) (ba:eC name=some v) (nS:PySem.W.handedIn v=true) (h:Q v {s with toks:=s.toks+1}):
  ⇑5 (getAttr (.ref x) name expr) Q E s:=by
 obtain⟨_,eg,ah⟩:=I.look;exact PySem.W.get_value X eg (DM bL).1 (PySem.W.findObj_own b3 az z (by rw[ah,ba])) nS h
def Xq (X:K.In s.heap)(I:rP s.heap x dx C eC)(bL:PySem.W.plainGet K C name=true)
  (aS:PySem.W.findIn K (.ref C) name=some (some (.ref f))) (a_:PySem.W.isFn K (.ref f)=true) (ba:eC name=none) (h:Q (.ref f,[.ref x]) s):
  ⇑5 (getMethod (.ref x) name pl) Q E s:=by
 obtain⟨e9,eg,ah⟩:=I.look;exact PySem.W.method_fn X eg (DM bL).1 (DM bL).2 aS (d_.mp a_) (by show(PySem.W.lookIn name e9).map (·.isSome)=some false;rw[ah,ba];rfl) h
def Xr (X:K.In s.heap)(I:rP s.heap x dx C eC)
  (au:PySem.W.findIn K (.ref C) "__setattr__"=some (some (.builtin "object.__setattr__"))) (ar:PySem.W.plainOver K C=true) (a_:PySem.W.takerIn K C name=some none) (b3:PySem.W.hasDictIn K C=true)
  (hw:PySem.Within eC ns) (hsz:ns.length<=sizeLine)
  (h:∀h',rP h' x dx C (λ y=>if y=name then some v else eC y)->Heap.SameBut dx s.heap h'->Q () {s with heap:=h',toks:=s.toks+2}):
  ⇑5 (setAttr (.ref x) name v) Q E s:=by
 obtain⟨_,eg,_⟩:=I.look;refine PySem.W.set_plain X eg au (PySem.W.osa_open (s:={s with toks:=s.toks+1}) (r:=none) X eg ar a_ λ _=>?_);obtain⟨_,ak,kV⟩:=PySem.W.any_some b3;have aa:=I.obj;refine aL (bq (aL (aL (wpAny_loadPart aa (aL (PySem.W.Looks.here (s:={s with toks:=s.toks+1}) (PySem.W.looks_clsIn X ak) ?_))))));rw[kV];refine bq (a:=some dx) (aL (bq (aL ?_)));refine wpAny_nsSet1 (s:={s with toks:=s.toks+1}) I.ns λ h' Ag rR=>?_;obtain⟨_,_,_,Xs,Xt,Xu⟩:=Ag.count (PySem.Within.cons name v hw);refine aL (wpAny_lookBehind Xs (by rw[Xt];exact pastItsLine_dict (cK Xu (by rw[cJ];omega))) ?_);exact bq (h _ ⟨(rR.2 _ (i7 I.ne)).trans I.obj,Ag,I.ne⟩ rR)
def Xv (X:K.In s.heap)(hm:PySem.W.makesIn K C=true)
  (aj:PySem.W.findIn K (.ref C) "__init__"=some (some (.ref f))) (aS:PySem.W.typeIn K (.ref f)=some (.type "function"))
  (h:codeAny (model prog w) (A.under (.builtin "type.__call__" ⟨.ref C::vs,kw⟩)) (.call (.ref f) ⟨.ref (⇑s+1)::vs,kw⟩) (PySem.W.InitBack (⇑s+1) R)
   {s with heap:=(s.heap.push PySem.W.emptyDict).push (PySem.W.instObj C ⇑s)}):
  codeAny (model prog w) A (.call (.ref C) ⟨vs,kw⟩) R s:=by
 obtain⟨_,_,_,_,_⟩:=s;exact PySem.W.make_core (PySem.W.makes_of X hm) (PySem.W.looks_findIn X aj) (λ self=>PySem.W.bind_fn X self aS) (.inl z) h
end
def hb (f:Str)(v:V):List (Str×V)->List (Str×V)
 |[]=>[(f,v)]
 |(g,x)::r=>if g=f then(g,v)::r else(g,x)::hb f v r
theorem O8 (f g:Str)(v:V):∀bT:List (Str×V),(hb f v bT).lookup g=if g=f then some v else bT.lookup g
 |[]=>by
  show List.lookup g [(f,v)]=_;by_cases h:g=f
  ·have Y:=d_.mpr h;simp only[List.lookup,Y,aA h]
  ·have Y:=pX.mpr h;simp only[List.lookup,Y,ay h]
 |(k,x)::r=>by
  have ih:=O8 f g v r;rw[show hb f v ((k,x)::r)=(if k=f then(k,v)::r else(k,x)::hb f v r) from rfl];by_cases ax:k=f
  ·rw[aA ax];by_cases h:g=k
   ·have Y:=d_.mpr h;simp only[List.lookup,Y,aA (h.trans ax)]
   ·have Y:=pX.mpr h;simp only[List.lookup,Y,ay (λ e:g=f=>h (e.trans ax.symm))]
  ·rw[ay ax];by_cases h:g=k
   ·have Y:=d_.mpr h;simp only[List.lookup,Y,ay (λ e:g=f=>ax (h.symm.trans e))]
   ·have Y:=pX.mpr h;simp only[List.lookup,Y];exact ih
theorem EI (f:Str)(v:V):∀bT:List (Str×V),f∈(hb f v bT).map (·.1)/\∀g,g∈bT.map (·.1)->g∈(hb f v bT).map (·.1)
 |[]=>⟨by simp[hb],λ g h=>by simp at h⟩
 |(k,x)::r=>by
  obtain⟨fa,dm⟩:=EI f v r;rw[show hb f v ((k,x)::r)=(if k=f then(k,v)::r else(k,x)::hb f v r) from rfl];by_cases ax:k=f
  ·rw[aA ax];subst ax;exact⟨⇑2,λ g h=>by simpa using h⟩
  ·rw[ay ax];refine⟨?_,λ g h=>?_⟩
   ·rw[bU];exact cu _ fa
   ·rw[bU] at h⊢;rcases bN.mp h with e|e
    ·exact bN.mpr (.inl e)
    ·exact cu _ (dm g e)
theorem O9 (f:Str)(v:V):∀bT:List (Str×V),(hb f v bT).length<=bT.length+1
 |[]=>by simp[hb]
 |(k,x)::r=>by
  have ih:=O9 f v r;rw[show hb f v ((k,x)::r)=(if k=f then(k,v)::r else(k,x)::hb f v r) from rfl];by_cases ax:k=f;·rw[aA ax,cJ,cJ];omega
  ·rw[ay ax,cJ,cJ];omega
def gC.some_of (r:gC (some v) o):∃u,o=some u/\RelV v u:=by
 cases o with
 |none=>exact(show False from r).elim
 |some u=>exact⟨u,z,r⟩
def gC.none_of (r:gC none o):o=none:=by
 cases o with
 |none=>rfl
 |some u=>exact(show False from r).elim
def Xw (r:RelV v u):PySem.W.handedIn u=true:=by
 cases v with
 |b6=>cases (show u=Value.none from r);rfl
 |bg b=>cases (show u=Value.bool b from r);rfl
 |int i=>obtain⟨t,e⟩:=(show ∃t,u=Value.int i t from r);cases e;rfl
 |str x=>obtain⟨t,e⟩:=(show ∃t,u=Value.str x t from r);cases e;rfl
 |iM b=>obtain⟨t,e⟩:=(show ∃t,u=Value.bytes b t from r);cases e;rfl
 |wW b=>obtain⟨t,e⟩:=(show ∃t,u=Value.float b t from r);cases e;rfl
 |ref a=>cases (show u=Value.ref a from r);rfl
 |ty n=>cases (show u=Value.type n from r);rfl
section
variable{P:Program}{w:World}{H J:aP}{h h':Heap}{a C dx:Addr}{bT Wz:List (Str×V)}
def Ah (bi:eD P w H h)(e:H a=some (.ins C dx bT)):∃eC,rP h a dx C eC/\(∀f,gC (bT.lookup f) (eC f))/\PySem.Within eC (bT.map (·.1))/\bT.length<=1000/\H dx=some (.own a):=by obtain⟨d,B,ne,ob,eC,n,r,q⟩:=(show e8 P w H h a (.ins C dx bT) from bi a _ e);exact⟨eC,⟨ob,n,ne⟩,r,q,B,d⟩
end
structure fo (K:Frag)(C:Addr):Prop where
 c3:PySem.W.plainGet K C Str.empty=true
 hd:PySem.W.hasDictIn K C=true
 po:PySem.W.plainOver K C=true
 EJ:PySem.W.findIn K (.ref C) "__setattr__"=some (some (.builtin "object.__setattr__"))
def fo.get {K:Frag}(c:fo K C)(f):PySem.W.plainGet K C f=true:=c.c3
def fb (K:Frag)(C:Addr)(f:Str):Prop:=PySem.W.findIn K (.ref C) f=some none
def fb.Xx {K:Frag}(n:fb K C f):PySem.W.takerIn K C f=some none:=by unfold PySem.W.takerIn;rw[show PySem.W.findIn K (.ref C) f=some none from n];rfl
structure Meth (K:Frag)(C:Addr)(m:Str)(f:Addr):Prop where
 at_:PySem.W.findIn K (.ref C) m=some (some (.ref f))
 fn:PySem.W.isFn K (.ref f)=true
 et:PySem.W.keepIn K (.ref f)=true
section
variable{X:bE}{ac:List (Addr×Obj)}{L:St}{H:aP}{s:Shared}{a C dx:Addr}{bT:List (Str×V)}{f:Str}{v:V}{A:Around}{E:Value->Shared->Prop}
def Xy (I:Inv X ac L H s)(e:H a=some (.ins C dx bT))(c:fo X.K C)(n:fb X.K C f)(l:bT.lookup f=some v)
  (h:∀u aV,Inv X ac L H aV->RelV v u->Q u aV):wpAny (model X.prog X.w) A (getAttr (.ref a) f b) Q E s:=by
 obtain⟨eC,rS,r,_,_,_⟩:=Ah I.bi e;obtain⟨u,a1,gS⟩:=gC.some_of (v:=v) (o:=eC f) (by rw[<-l];exact r f);exact get_map I.iN rS (c.get f) c.hd n a1 (Xw gS) (h u _ (I.tok _) gS)
def O_ (I:Inv X ac L H s)(e:H a=some (.ins C dx bT))(c:fo X.K C)(k:Meth X.K C m g)(l:bT.lookup m=none)
  (h:Q (.ref g,[.ref a]) s):wpAny (model X.prog X.w) A (getMethod (.ref a) m pl) Q E s:=by
 obtain⟨_,rS,r,_,_,_⟩:=Ah I.bi e;have aB:=gC.none_of (by rw[<-l];exact r m);exact Xq I.iN rS (c.get m) k.at_ k.fn aB h
def Xz (I:Inv X ac L H s)(e:H a=some (.ins C dx bT))(c:fo X.K C)(n:fb X.K C f)(ah:bT.length<1000)(bo:RelV y u)
  (h:∀aV,Inv X ac L (upd H a (.ins C dx (hb f y bT))) aV->Q () aV):wpAny (model X.prog X.w) A (setAttr (.ref a) f u) Q E s:=by
 obtain⟨eC,rS,r,ja,_,aT⟩:=Ah I.bi e;have hz:(bT.map (·.1)).length<=sizeLine:=by rw[be,zW];omega
 refine Xr I.iN rS c.EJ c.po n.Xx c.hd ja hz λ h' EK d8=>h _ ?_;have hd:∃o,h'.get? dx=some o:=let ⟨o,_,_,bW,_⟩:=EK.ns;⟨o,bW⟩;refine I.write (x:=a) (e:=dx) (by rw[e];exact True.intro) (.inr aT) (λ b q Y B=>(d8.2 b Y).trans B) hd ?_;refine⟨by rw[dv rS.ne];exact aT,?_,rS.ne,EK.obj,_,EK.ns,λ g=>?_,λ g bL=>?_⟩;·have:=O9 f y bT;omega
 ·show gC ((hb f y bT).lookup g) (if g=f then some u else eC g);rw[O8];by_cases q:g=f
  ·rw[aA q,aA q];exact bo
  ·rw[ay q,ay q];exact r g
 ·by_cases q:g=f
  ·rw[q];exact(EI f y bT).1
  ·refine(EI f y bT).2 g (ja g λ B=>bL ?_);show(if g=f then some u else eC g)=none;rw[ay q];exact B
def Inv.made (I:Inv X ac L H s):Inv X ac L (upd (upd H ⇑s (.own (⇑s+1))) (⇑s+1) (.ins C ⇑s []))
  {s with heap:=(s.heap.push PySem.W.emptyDict).push (PySem.W.instObj C ⇑s)}:=by
 have ap:(s.heap.push PySem.W.emptyDict).get? ⇑s=some PySem.W.emptyDict:=eU s.heap z;have ao:((s.heap.push PySem.W.emptyDict).push (PySem.W.instObj C ⇑s)).get? (⇑s+1)=some (PySem.W.instObj C ⇑s):=by have:=eU (s.heap.push PySem.W.emptyDict) (o:=PySem.W.instObj C ⇑s) z;rwa [g5] at this
 have bz:(s.heap.push PySem.W.emptyDict).Ns ⇑s (λ _=>none):=⟨PySem.W.emptyDict,#[],_,ap,z,(λ _ a3=>absurd a3 ⇑2),λ _=>rfl⟩;have a4:=I.laid (a:=⇑s) (o:=.own (⇑s+1)) (h':=s.heap.push PySem.W.emptyDict) (t':=s.toks) (λ b u q=>dq _ q) (bG _) ⟨_,ap⟩;refine a4.laid (a:=⇑s+1) (o:=.ins C ⇑s []) (t':=s.toks) (λ b u q=>dq _ q) (wS (g5 _ _)) ?_;have ne:⇑s≠⇑s+1:=er (nF _);refine⟨by rw[dv ne,aI],cQ _,ne,ao,λ _=>none,(Heap.Ns1.of_empty bz).at λ o q=>dq _ q,λ _=>True.intro,λ _ aC=>absurd z aC⟩
def XA (Y:attributeBase e f env (eval e env)=eval e env)
  (h:⇑5 (eval e env) (λ o dA=>⇑5 (getAttr o f true) Q E dA) E s):⇑5 (eval (.Attribute e f pos) env) Q E s:=
 Attribute_any_ h (by rw[arm_eval_Attribute,Y])
end
inductive XBj(K:Frag)(f:Str)(Q:d7)(x:V)(H1:aP):Prop|mk a C dx bT v:x=.ref a->H1 a=some (.ins C dx bT)->fo K C->fb K C f->bT.lookup f=some v->Q v H1->XBj K f Q x H1
def XB (K:Frag)(bx:TE)(f:Str):TE:=λ L H Q=>bx L H (XBj K f Q)
inductive XCj(K:Frag)(f:Str)(af:Ends)(L:St)(y x:V)(aE:aP):Prop|mk a C dx bT:x=.ref a->aE a=some (.ins C dx bT)->fo K C->fb K C f->bT.length<1000->af.a7 L (upd aE a (.ins C dx (hb f y bT)))->XCj K f af L y x aE
def XC (K:Frag)(bx iu:TE)(f:Str):g6:=λ af L H=>iu L H λ y H1=>bx L H1 (XCj K f af L y)
section
variable{X:bE}{o e value:Expr}{f:Str}{pos lE rT:Pos}{bx iu:TE}
def cZ (a3:a9 X e bx)(Y:attributeBase e f X.env (eval e X.env)=eval e X.env):a9 X (.Attribute e f pos) (XB X.K bx f):=by intro ac s L H _ I h;refine XA Y (bC (a3 s L H _ I h) λ u _ ⟨_,H1,a4,bt,a,_,_,_,v,ex,ej,c,n,l,q⟩=>?_);subst ex;obtain rfl:u=Value.ref a:=bt;exact Xy a4 ej c n l λ _ _ b8 gS=>⟨v,H1,b8,gS,q⟩
def jd (az:a9 X o bx)(ba:a9 X value iu)(au:swapsWith value (some (.Attribute o f lE)) pos.line X.env=pure false):kh X (.Assign [.Attribute o f lE] value pos) (XC X.K bx iu f):=by intro ac s L H _ I h;refine plainObj_wpAny_Assign_Attribute (bC (ba s L H _ I h) λ _ al ⟨_,H1,a4,bo,q⟩=>bC (az al L H1 _ a4 q) λ eM _ ⟨_,_,b8,bt,a,_,_,_,ex,ej,c,n,l,bb⟩=>?_) au;subst ex;obtain rfl:eM=Value.ref a:=bt;exact Xz b8 ej c n l bo λ _ dM=>⟨L,_,dM,bb⟩
end
structure ea (k:Nat)(A:Around):Prop where
 hd:A.handled=none
 iQ:A.depth+3 * k+5<recursionLimit
 un:A.units+16 * k+200<cLine
def ea.mono (r:ea k A)(h:j<=k):ea j A:=⟨r.hd,by have:=r.iQ;omega,by have:=r.un;omega⟩
def ea.deeper (r:ea (k+1) A)(env):ea k (A.deeper env):=⟨r.hd,by have:=r.iQ;show A.depth+1+3 * k+5<_;omega,by have:=r.un;show A.units+3+16 * k+200<_;omega⟩
def XD {A:Around}:(A.under (.builtin "type.__call__" ⟨.ref C::us,kw⟩)).depth=A.depth+1:=by first|rfl|simp[Around.under,Code.weight,Code.isCreation,Code.isGuard,Code.isCaller,Code.frames,Code.isFrame,guardIds]
def XE {A:Around}:(A.under (.builtin "type.__call__" ⟨.ref C::us,kw⟩)).units=A.units+1:=by first|rfl|simp[Around.under,Code.cUnits,Code.frames,Code.isFrame]
def ea.make (r:ea (k+1) A)(C)(us)(kw):ea k (A.under (.builtin "type.__call__" ⟨.ref C::us,kw⟩)):=⟨r.hd,by have:=r.iQ;rw[XD];omega,by have:=r.un;rw[XE];omega⟩
def ea.depth (r:ea k A):A.depth<recursionLimit:=by have:=r.iQ;omega
def ea.units (r:ea k A):A.units+64<cLine:=by have:=r.un;omega
def je:eX:=λ _ H Q=>Q [] H
def jG (bx:TE)(f2:eX):eX:=λ L H Q=>bx L H λ x H1=>f2 L H1 λ xs aE=>Q (x::xs) aE
section
variable{X:bE}{e:Expr}{ae:List Expr}{cc:TE}{t:eX}{pos:Pos}
def ai:gf X [] je:=λ _ _ _ _ H _ I h=>p2 ⟨[],H,I,.nil,h⟩
def U (az:a9 X e cc)(ab:gf X ae t)(au:starEach (e::ae) X.env=(false,eval e X.env)::starEach ae X.env:=by rfl):gf X (e::ae) (jG cc t):=by intro pos ac s L H _ I h;rw[au];refine nE (bC (az s L H _ I h) λ _ al ⟨x,H1,a4,b0,q1⟩=>?_);exact bC (ab pos ac al L H1 _ a4 q1) λ _ _ ⟨xs,aE,b8,de,bb⟩=>⟨x::xs,aE,b8,.cons b0 de,bb⟩
def XF (t:eX):TE:=λ L H Q=>t L H λ xs H1=>xs.length<=sizeLine/\∀p,H1 p=none->Q (.ref p) (upd H1 p (.tup xs))
def O' (t:eX):TE:=λ L H Q=>t L H λ xs H1=>xs.length<=sizeLine/\∀p,H1 p=none->Q (.ref p) (upd H1 p (.lst xs))
def gT (h:gf X ae t):a9 X (.Tuple ae t2 pos) (XF t):=by intro ac s L H _ I aK;refine wpAny_Tuple_spliced (bC (h pos ac s L H _ I aK) λ us al ⟨xs,H1,a4,r,B,q⟩=>⟨by rw[<-r.length];exact B,?_⟩);have aS:=a4.bi.fresh (bG _);refine⟨.ref ⇑al,upd H1 ⇑al (.tup xs),a4.laid (t':=al.toks) (λ _ _ e=>dq _ e) (bG _) ?_,z,q _ aS⟩;exact⟨B,us,r,⟨_,eU _ z,z,_,z⟩⟩
def b_ (h:gf X ae t):a9 X (.List ae pos) (O' t):=by intro ac s L H _ I aK;refine wpAny_List_spliced (bC (h pos ac s L H _ I aK) λ us al ⟨xs,H1,a4,r,B,q⟩=>⟨by rw[<-r.length];exact B,?_⟩);have aS:=a4.bi.fresh (bG _);refine⟨.ref ⇑al,upd H1 ⇑al (.lst xs),a4.laid (t':=al.toks) (λ _ _ e=>dq _ e) (bG _) ?_,z,q _ aS⟩;exact⟨B,us,0,r,eU _ z⟩
end
abbrev bA:=List V->aP->d7->mD->Prop
abbrev rU:=List Env->aP->Shared->mD->Value->Shared->Prop
structure rV (P:Program)(w:World)(K:Frag)(am:Str->Option Value)(base:Heap)(A:Around)(outer:List Env)(s:Shared)(H:aP):Prop where
 frames:A.frames=some outer
 mod:Mod K am base
 bs:∀b o,base.get? b=some o->s.heap.get? b=some o/\H b=none
 oZ:base.objs.size<=⇑s
 lB:s.heap.FunFrames base outer
 rC:∀b∈mB outer,H b=none
 bi:eD P w H s.heap
 bare:AllBare s.gens
inductive EL(outer:List Env)(P:Program)(w:World)(H:aP)(s:Shared)(Q:d7)(u:Value)(aV:Shared):Prop|mk v J:aV.os=s.os->AllBare aV.gens->gp (mB outer) [] H J s.heap aV.heap->eD P w J aV.heap->RelV v u->Q v J->EL outer P w H s Q u aV
def XG (CX:rU)(outer:List Env)(P:Program)(w:World)(H:aP)(s:Shared)(Q:d7)(E:mD)(r:Result)(aV:Shared):Prop:=
 match r with
 |.ok (.ret u)=>EL outer P w H s Q u aV
 |.ok _=>False
 |.error e=>CX outer H s E e aV
structure fB (P:Program)(w:World)(K:Frag)(am:Str->Option Value)(base:Heap)(CX:rU)(k:Nat)(f:Addr)(fd:FuncData)(ps:List Str)(sp:bA):Prop where
 len:∀vs H Q E,sp vs H Q E->vs.length=ps.length
 run:∀(A:Around)(outer:List Env)(s:Shared)(H:aP)(args:Args)(us:List Value)(vs:List V)(Q:d7)(E:mD),ea k A->rV P w K am base A outer s H->BindsTo s fd args (ps.zip us)->Vals vs us->sp vs H Q E->
  codeAny (model P w) A (.call (.ref f) args) (XG CX outer P w H s Q E) s
def rV.make {K:Frag}(e:rV P w K am base A outer s H)(C)(us)(kw):
  rV P w K am base (A.under (.builtin "type.__call__" ⟨.ref C::us,kw⟩)) outer s H:=⟨by first|exact e.frames|(simpa[Around.under,Code.envs,Code.isFrame,pushEnvs] using e.frames),e.mod,e.bs,e.oZ,e.lB,e.rC,e.bi,e.bare⟩
section
variable{X:bE}{ac:List (Addr×Obj)}{L:St}{H:aP}{s aV:Shared}
def Inv.Pa (I:Inv X ac L H s):rV X.prog X.w X.K X.am X.base X.A X.stack s H:=⟨I.ok.frames,I.ok.mod,I.bs,cK I.ok.oZ I.tO,I.stack,I.Ox,I.bi,I.bare⟩
def Inv.after (I:Inv X ac L H s)(h:EL X.stack X.prog X.w H s Q u aV):g7 X ac L Q u aV:=by obtain⟨v,J,os,bare,un,bi,r,q⟩:=h;obtain⟨b3,g,d,t,XH⟩:=aV;obtain rfl:XH=s.os:=os;exact⟨v,J,I.call (h':=b3) (g':=g) (d':=d) (t':=t) (ch:=[]) un bi bare (λ _ B=>absurd B ⇑2),r,q⟩
end
def EM (sp:bA)(gU:List V)(E:mD)(t:eX):TE:=λ L H Q=>t L H λ vs H1=>sp (vs++gU) H1 Q E
inductive Aij(C:Addr)(m:Str)(sp:bA)(gU:List V)(E:mD)(t:eX)(L:St)(Q:d7)(x:V)(H1:aP):Prop|mk a dx bT:x=.ref a->H1 a=some (.ins C dx bT)->bT.lookup m=none->(t L H1 λ vs aE=>sp (x::(vs++gU)) aE Q E)->Aij C m sp gU E t L Q x H1
def Ai (C:Addr)(m:Str)(sp:bA)(gU:List V)(E:mD)(bx:TE)(t:eX):TE:=λ L H Q=>bx L H (Aij C m sp gU E t L Q)
def Aj (C:Addr)(sp:bA)(gU:List V)(E:mD)(t:eX):TE:=λ L H Q=>t L H λ vs H1=>∀x dx,H1 x=none->H1 dx=none->dx≠x->
 sp (.ref x::(vs++gU)) (upd (upd H1 dx (.own x)) x (.ins C dx [])) (λ v aE=>v=.b6/\Q (.ref x) aE) E
def Binds (K:Frag)(fd:FuncData)(ps:List Str)(bH:List Value):Prop:=∀s us,K.In s.heap->(us++bH).length=ps.length->BindsTo s fd ⟨us,[]⟩ (ps.zip (us++bH))
def Binds.all {K:Frag}(h:∀us:List Value,us.length=ps.length->bindArgs fd ⟨us,[]⟩=pure (ps.zip us)):Binds K fd ps []:=λ _ us _ ah=>by rw[hr] at ah⊢;exact .of_eq (h us ah)
def Passes (CX:rU)(X:bE)(E:mD):Prop:=∀ac L H s e aV,Inv X ac L H s->CX X.stack H s E e aV->X.dG e aV
section
variable{X:bE}{CX:rU}{k:Nat}{f C:Addr}{fd:FuncData}{ps:List Str}{sp:bA}{gU:List V}{bH:List Value}{E:mD}{x m:Str}{p pos d1:Pos}{e o:Expr}{ae:List Expr}{bx:TE}{t:eX}
def EN (F:fB X.prog X.w X.K X.am X.base CX k f fd ps sp)(ab:ea k X.A)(Y:Binds X.K fd ps bH)(hd:Vals gU bH)(aa:Passes CX X E)
  (I:Inv X ac L H s) (r:Vals vs us) (h:sp (vs++gU) H Q E):⇑4 (call (.ref f) us) (g7 X ac L Q) X.dG s:=by
 have de:=r.append hd;have ah:(us++bH).length=ps.length:=by rw[<-de.length];exact F.len _ _ _ _ h
 refine tL (oV (F.run X.A X.stack s H ⟨us,[]⟩ (us++bH) (vs++gU) Q E ab I.Pa (Y s us I.iN ah) de h) λ r aV aK=>?_);cases r with
 |error e=>exact aa ac L H s e aV I aK
 |ok f8=>
  cases f8 with
  |ret u=>exact I.after aK
  |next=>exact False.elim aK
  |brk=>exact False.elim aK
  |cont=>exact False.elim aK
def XI (F:fB X.prog X.w X.K X.am X.base CX k f fd ps sp)(ab:ea k X.A)(bL:gr X x)(hm:X.am x=some (.ref f))(ax:PySem.W.keepIn X.K (.ref f)=true)(Y:Binds X.K fd ps bH)(hd:Vals gU bH)(aa:Passes CX X E)
  (az:gf X (e::ae) t) (jH:(x==("__debug__":Str))=false:=by decide) (a3:starEach (e::ae) X.env=(false,eval e X.env)::starEach ae X.env:=by rfl) (d2:(backTo pos (starEach ae X.env)).any (·.1)=false:=by rfl):
  a9 X (.Call (.Name x p) (e::ae) [] pos) (EM sp gU E t):=by
 intro ac s L H _ I h;refine oO (z5 I bL hm ?_ jH);refine DO (h₀:=X.base) I.ok.mod.wZ ax (bC (az pos ac s L H _ I h) λ _ _ ⟨_,_,a4,r,q⟩=>⟨a4.iN,?_⟩) a3 d2;exact EN F ab Y hd aa a4 r q
def EO {pl:Sem Bool}(a3:a9 X o bx)(c:fo X.K C)(hm:Meth X.K C m f)(F:fB X.prog X.w X.K X.am X.base CX k f fd ps sp)(ab:ea k X.A)(Y:Binds X.K fd ps bH)(hd:Vals gU bH)(aa:Passes CX X E)(az:gf X (e::ae) t)
  (mG:starEach (e::ae) X.env=(false,eval e X.env)::starEach ae X.env:=by rfl) (d2:(backTo pos (starEach ae X.env)).any (·.1)=false:=by rfl)
  (a_:eval (.Call (.Attribute o m d1) (e::ae) [] pos) X.env=(do
   let eM<-eval o X.env
   standAt d1.atName
   let (f,first)<-holding [eM] (getMethod eM m pl)
   callWith pos f first (backTo pos (starEach (e::ae) X.env)) (backToKw pos (keywordEach [] X.env))):=by rfl):
  a9 X (.Call (.Attribute o m d1) (e::ae) [] pos) (Ai C m sp gU E bx t):=by
 intro ac s L H _ I h;refine NK (pl:=pl) (bC (a3 s L H _ I h) λ u al ⟨_,H1,a4,bt,a,_,_,ex,ej,l,q⟩=>?_) a_;subst ex;obtain rfl:u=Value.ref a:=bt;refine O_ a4 ej c hm l ?_;refine DO (first:=[.ref a]) (h₀:=X.base) I.ok.mod.wZ hm.et (bC (az pos ac al L H1 _ a4 q) λ us _ ⟨vs,_,b8,r,bb⟩=>⟨b8.iN,?_⟩) mG d2;exact EN (us:=.ref a::us) (vs:=.ref a::vs) F ab Y hd aa b8 (.cons z r) bb
def XJ {pl:Sem Bool}(a3:a9 X o bx)(c:fo X.K C)(hm:Meth X.K C m f)(F:fB X.prog X.w X.K X.am X.base CX k f fd ps sp)(ab:ea k X.A)(Y:Binds X.K fd ps bH)(hd:Vals gU bH)(aa:Passes CX X E)
  (a_:eval (.Call (.Attribute o m d1) [] [] pos) X.env=(do
   let eM<-eval o X.env
   standAt d1.atName
   let (f,first)<-holding [eM] (getMethod eM m pl)
   callWith pos f first (backTo pos (starEach [] X.env)) (backToKw pos (keywordEach [] X.env))):=by rfl):
  a9 X (.Call (.Attribute o m d1) [] [] pos) (Ai C m sp gU E bx je):=by
 intro ac s L H _ I h;refine NK (pl:=pl) (bC (a3 s L H _ I h) λ u _ ⟨_,_,a4,bt,a,_,_,ex,ej,l,q⟩=>?_) a_;subst ex;obtain rfl:u=Value.ref a:=bt;refine O_ a4 ej c hm l ?_;exact NT (first:=[.ref a]) a4.iN hm.et (EN (us:=[.ref a]) (vs:=[.ref a]) F ab Y hd aa a4 (.cons z .nil) q)
structure jI (K:Frag)(C f:Addr):Prop where
 makes:PySem.W.makesIn K C=true
 init:PySem.W.findIn K (.ref C) "__init__"=some (some (.ref f))
 fn:PySem.W.isFn K (.ref f)=true
 et:PySem.W.keepIn K (.ref C)=true
def Pb (dU:jI X.K C f)(F:fB X.prog X.w X.K X.am X.base CX k f fd ps sp)(ab:ea (k+1) X.A)(Y:Binds X.K fd ps bH)(hd:Vals gU bH)
  (aa:Passes CX X E) (I:Inv X ac L H s) (r:Vals vs us)
  (h:∀x dx,H x=none->H dx=none->dx≠x->sp (.ref x::(vs++gU)) (upd (upd H dx (.own x)) x (.ins C dx [])) (λ v aE=>v=.b6/\Q (.ref x) aE) E):
  ⇑4 (call (.ref C) us) (g7 X ac L Q) X.dG s:=by
 have aK:=h (⇑s+1) ⇑s (I.bi.fresh (mz _)) (I.bi.fresh (bG _)) (er (nF _));have b8:=Inv.made (C:=C) I;have de:Vals (V.ref (⇑s+1)::(vs++gU)) (Value.ref (⇑s+1)::(us++bH)):=.cons z (r.append hd);have ah:(Value.ref (⇑s+1)::us++bH).length=ps.length:=by have e:=de.length;rw[F.len _ _ _ _ aK] at e;exact e.symm
 refine tL (Xv (f:=f) I.iN dU.makes dU.init (d_.mp dU.fn) (oV (F.run _ X.stack _ _ ⟨Value.ref (⇑s+1)::us,[]⟩ (Value.ref (⇑s+1)::(us++bH)) _ _ E (ab.make C us [])
  (b8.Pa.make C us []) (Y _ (Value.ref (⇑s+1)::us) b8.iN ah) de aK) λ r aV iR=>?_))
 cases r with
 |error e=>exact aa ac L _ _ e aV b8 iR
 |ok f8=>
  cases f8 with
  |ret u=>obtain⟨v,J,dM,cv,mN,eF⟩:=b8.after iR;subst mN;exact⟨cv,⟨V.ref (⇑s+1),J,dM,z,eF⟩⟩
  |next=>exact False.elim iR
  |brk=>exact False.elim iR
  |cont=>exact False.elim iR
def xj (dU:jI X.K C f)(F:fB X.prog X.w X.K X.am X.base CX k f fd ps sp)(ab:ea (k+1) X.A)(bL:gr X x)(hm:X.am x=some (.ref C))(Y:Binds X.K fd ps bH)(hd:Vals gU bH)(aa:Passes CX X E)
  (az:gf X (e::ae) t) (jH:(x==("__debug__":Str))=false:=by decide) (a3:starEach (e::ae) X.env=(false,eval e X.env)::starEach ae X.env:=by rfl) (d2:(backTo pos (starEach ae X.env)).any (·.1)=false:=by rfl):
  a9 X (.Call (.Name x p) (e::ae) [] pos) (Aj C sp gU E t):=by
 intro ac s L H _ I h;refine oO (z5 I bL hm ?_ jH);refine DO (h₀:=X.base) I.ok.mod.wZ dU.et (bC (az pos ac s L H _ I h) λ _ _ ⟨_,_,a4,r,q⟩=>⟨a4.iN,?_⟩) a3 d2;exact Pb dU F ab Y hd aa a4 r q
def XK (dU:jI X.K C f)(F:fB X.prog X.w X.K X.am X.base CX k f fd ps sp)(ab:ea (k+1) X.A)(bL:gr X x)(hm:X.am x=some (.ref C))(Y:Binds X.K fd ps bH)(hd:Vals gU bH)(aa:Passes CX X E)
  (jH:(x==("__debug__":Str))=false:=by decide):a9 X (.Call (.Name x p) [] [] pos) (Aj C sp gU E je):=by
 intro _ _ _ _ _ I h;refine oO (z5 I bL hm ?_ jH);exact NT I.iN dU.et (Pb (us:=[]) dU F ab Y hd aa I .nil h)
end
structure t3 (N P:List Str)(dz:Scope):Prop where
 kind:dz.kind=.function
 co:dz.isCoroutine=false
 gen:dz.isGenerator=false
 nd:N.Nodup
 pre:N.take P.length=P
 par:∀x∈P,dz.names.lookup x=some .local\/dz.names.lookup x=some .cell
 XM:∀y∈dz.names,y.2≠.free
theorem Pc {kindOf:Str->Option NameKind}{x:Str}:∀{binds:List (Str×Value)}{m:Str->Option Value},(∀v,(x,v)∉binds)->bindL kindOf binds m x=m x
 |[],_,_=>rfl
 |(n,v)::r,m,h=>by
  unfold bindL;rw[Pc λ w hw=>h w (cu _ hw)];split
  ·have:x≠n:=by rintro rfl;exact h v cn
   simp[this]
  ·rfl
theorem Pd {kindOf:Str->Option NameKind}{x:Str}:∀{binds:List (Str×Value)}{m:Str->Option Value},(∀v,(x,v)∉binds)->bindC kindOf binds m x=m x
 |[],_,_=>rfl
 |(n,v)::r,m,h=>by
  unfold bindC;rw[Pd λ w hw=>h w (cu _ hw)];split;·rfl
  ·have:x≠n:=by rintro rfl;exact h v cn
   simp[this]
theorem Pe {kindOf:Str->Option NameKind}:∀{P:List Str}{vs:List Value}{i:Nat}{m:Str->Option Value},P.Nodup->P[i]?=some x->vs[i]?=some v->kindOf x=some .local->
  bindL kindOf (P.zip vs) m x=some v
 |[],_,_,_,_,h,_,_=>by simp at h
 |_::_,[],_,_,_,_,h,_=>by simp at h
 |p::P,w::vs,0,m,nd,D,G,ax=>by simp at D G;subst D;subst G;show bindL kindOf ((p,w)::P.zip vs) m p=_;unfold bindL;rw[Pc λ v ba=>(i6.mp nd).1 (DZ ba).1,aA ax];simp
 |p::P,w::vs,i+1,m,nd,D,G,ax=>by unfold bindL;exact Pe (i:=i) (i6.mp nd).2 ↥D ↥G ax
theorem Pf {kindOf:Str->Option NameKind}:∀{P:List Str}{vs:List Value}{i:Nat}{m:Str->Option Value},P.Nodup->P[i]?=some x->vs[i]?=some v->kindOf x≠some .local->
  bindC kindOf (P.zip vs) m x=some v
 |[],_,_,_,_,h,_,_=>by simp at h
 |_::_,[],_,_,_,_,h,_=>by simp at h
 |p::P,w::vs,0,m,nd,D,G,ax=>by simp at D G;subst D;subst G;show bindC kindOf ((p,w)::P.zip vs) m p=_;unfold bindC;rw[Pd λ v ba=>(i6.mp nd).1 (DZ ba).1,ay ax];simp
 |p::P,w::vs,i+1,m,nd,D,G,ax=>by unfold bindC;exact Pf (i:=i) (i6.mp nd).2 ↥D ↥G ax
def start (N:List Str)(vs:List V):St:=vs.map some++List.replicate (N.length - vs.length) none
def rW (CX:rU)(P:Program)(w:World)(K:Frag)(am:Str->Option Value)(base:Heap)(N:List Str)(cL:Str)(scope:Scope)(f:Addr)(o6:Value)(A:Around)(outer:List Env)(s:Shared)(H:aP)(E:mD):bE where
 prog:=P
 w:=w
 K:=K
 am:=am
 base:=base
 A:=A.deeper (envOfC cL scope ⇑s f o6)
 N:=N
 hx:=s
 w1:=H
 env:=envOfC cL scope ⇑s f o6
 outer:=outer
 stack:=envOfC cL scope ⇑s f o6::outer
 ex:=[]
 calm:=true
 fn:=λ _=>true
 kU:=[]
 dG:=λ e aV=>wpAny (model P w) (A.deeper (envOfC cL scope ⇑s f o6)) (leaving (envOfC cL scope ⇑s f o6) e) (λ _ EP=>CX outer H s E e EP) (λ bW EP=>CX outer H s E bW EP) aV
def Pg {dz:Scope}(h:dz.names.lookup x=some .cell):∃c,(cellsFrom n dz.names []).lookup x=some c:=by have q:=NF dz.names n [] (.inl h);exact jy.mp q
def XN {K:Frag}
  (S:t3 N ps scope) (hd:A.handled=none) (cD:rV P w K am base A outer s H) (ah:vs.length=ps.length) (r:Vals vs us)
  (x:InCallC s ⇑s (bindL (envOfC cL scope ⇑s f o6).kindOf (ps.zip us) λ _=>none) (cellsFrom (⇑s+1) scope.names []) (bindC (envOfC cL scope ⇑s f o6).kindOf (ps.zip us) λ _=>none) al):
  Inv (rW CX P w K am base N cL scope f o6 A outer s H E) [] (start N vs) H al:=by
 have d2:ps.length<=N.length:=by have:=congrArg List.length S.pre;rw[c5] at this;omega
 obtain⟨D,_,rfl,ax⟩:=x.done;have t4:∀b:Addr,b∉(rW CX P w K am base N cL scope f o6 A outer s H E).ex:=λ b B=>absurd (show b∈([]:List Addr) from B) ⇑2;refine⟨⟨cD.mod,S.kind,z,z,bG _,λ y B c D G=>?_,λ y aC=>?_,λ y c _ h=>?_,λ _=>hd,Around.frames_deeper cD.frames,.inr ⟨z,z⟩,λ b B=>absurd B (t4 b),cD.bs,cD.oZ,λ b _ _=>t4 b,λ b B=>absurd B (t4 b),cD.lB,cD.rC⟩,
  rfl,cD.bare,gp.kept ax,⟨_,x.toInCall.ns,λ i y v D G _=>?_⟩,λ y c h=>⟨_,x.cell y c h⟩,cD.bi.fresh (bG _),λ y c h=>?_,λ p ar=>absurd (show p∈([]:List (Addr×Obj)) from ar) ⇑2,cD.bi.kept ax,?_⟩
 ·exact name_of_addr x.apart (jA D) (jA G)
 ·have aC:=aC;rcases aC with aC|aC
  ·exact Pg aC
  ·exact absurd z (S.XM _ (jA aC))
 ·exact nI (x.above y c (jA h))
 ·have aj:i<vs.length:=by
   unfold start at G;by_cases aj:i<vs.length;·exact aj
   ·rw[ti ↥aj] at G;rw[List.getElem?_replicate] at G;split at G<;>cases G
  have az:vs[i]?=some v:=by
   unfold start at G;rw[jx ↥aj,d5] at G;cases e:vs[i]? with
   |none=>rw[e] at G;cases G
   |some a=>rw[e] at G;cases G;rfl
  obtain⟨u,a1,cv⟩:=r.get az;have ar:ps[i]?=some y:=by rw[<-S.pre,Ny ⇑1];exact D
  have Ph:ps.Nodup:=by rw[<-S.pre];exact S.nd.sublist (N5 _ _)
  refine⟨u,cv,?_⟩;rcases S.par y (gc ar) with k|k
  ·exact .inl ⟨k,Pe Ph ar a1 k⟩
  ·obtain⟨c,e⟩:=Pg (n:=⇑s+1) k;refine .inr ⟨.inl k,c,e,?_⟩;have q:=x.cell y c e;rw[Pf Ph ar a1 (by show scope.names.lookup y≠_;rw[k];decide)] at q;exact q
 ·exact cD.bi.fresh (nI (x.above y c (jA h)))
 ·unfold start;show _=N.length;rw[cX,be,List.length_replicate];omega
def XO {K:Frag}{Pj c0 gV gW dI es i9:Value}(kk:K.lookup f=some ⟨i9,e9,.func (PySem.W.fnOf name cL params body scope Pj c0 gV gW gI dI es),t5⟩)(rG:PySem.W.codeIn K dI cL=true)(S:t3 N ps scope)(len:∀vs H Q E,sp vs H Q E->vs.length=ps.length)(EQ:∀A outer s H vs Q E,ea k (A.deeper (envOfC cL scope ⇑s f dI))->sp vs H Q E->∃t,ki (rW CX P w K am base N cL scope f dI A outer s H E) body t/\t {a7:=λ _ J=>Q .b6 J,nM:=Q} (start N vs) H):fB P w K am base CX (k+1) f (PySem.W.fnOf name cL params body scope Pj c0 gV gW gI dI es) ps sp:=by
 refine⟨len,λ A outer s H args us vs Q E ab cD Y r nT=>?_⟩;have ah:=len _ _ _ _ nT;have aW:=cD.mod.wZ.keeps λ b o e=>(cD.bs b o e).1;have XP:=cD.mod.nolimit.keeps λ b o e=>(cD.bs b o e).1;have XQ:∀y∈ps.zip us,scope.names.lookup y.1=some .local\/(scope.names.lookup y.1=some .cell/\((cellsFrom (⇑s+1) scope.names []).lookup y.1).isSome=true):=λ⟨n,v⟩ aC=>by
  rcases S.par n (DZ aC).1 with q|q;·exact .inl q
  ·exact .inr ⟨q,NF _ _ _ (.inl q)⟩
 refine codeAny_call_function ab.depth (aW _ _ kk) z S.co S.gen z (PySem.W.codeRec_of aW rG) (Y _ _ _ _ ?_);refine wpAny_newFunctionEnv_cells S.kind XQ λ env a3 al x=>?_;subst a3;refine⟨XP.keeps x.toInCall.keep,codeAny_func ?_⟩;obtain⟨t,a_,aK⟩:=EQ A outer s H vs Q E (ab.deeper _) nT;have I:Inv (rW CX P w K am base N cL scope f dI A outer s H E) [] (start N vs) H al:=XN S ab.hd cD ah r x;refine hu (a_ al (start N vs) H _ I aK) (λ f8 aV au=>?_) λ e aV au=>au;have cY:∀{cf:St}{J:aP}{v:V}{u:Value},Inv (rW CX P w K am base N cL scope f dI A outer s H E) [] cf J aV->RelV v u->Q v J->EL outer P w H s Q u aV:=λ {cf J v u} eg cv q=>⟨v,J,eg.os,eg.bare,eg.base,eg.bi,cv,q⟩
 cases f8 with
 |ret u=>obtain⟨v,cf,J,eg,cv,q⟩:=au;exact cY eg cv q
 |next=>obtain⟨cf,J,eg,q⟩:=au;exact cY (v:=V.b6) (u:=Value.none) eg z q
 |brk=>obtain⟨_,_,_,q⟩:=au;exact False.elim q
 |cont=>obtain⟨_,_,_,q⟩:=au;exact False.elim q
section
variable{X:bE}{x:Str}{p pos:Pos}{e:Expr}{ae:List Expr}{t:eX}{id T:String}{r:List V->aP->d7->Prop}
def nU (r:List V->aP->d7->Prop)(t:eX):TE:=λ L H Q=>t L H λ vs H1=>r vs H1 Q
def dJ (ak:jF X (.builtin id) r)(bL:gr X x)(hm:X.am x=none)(ba:bootBuiltins x=some (.builtin id))(az:gf X (e::ae) t)(aB:x≠"__name__":=by decide)(jH:(x==("__debug__":Str))=false:=by decide)
  (a3:starEach (e::ae) X.env=(false,eval e X.env)::starEach ae X.env:=by rfl) (d2:(backTo pos (starEach ae X.env)).any (·.1)=false:=by rfl):a9 X (.Call (.Name x p) (e::ae) [] pos) (nU r t):=by
 intro ac s L H Q I h;refine oO (rH I bL hm ba ?_ aB jH);exact Nq (bC (az pos ac s L H _ I h) λ us al ⟨vs,H1,a4,b0,q1⟩=>ak al L H1 vs us Q a4 b0 q1) a3 d2
def o7 (ak:jF X (.type T) r)(bL:gr X x)(hm:X.am x=none)(ba:bootBuiltins x=some (.type T))(az:gf X (e::ae) t)(aB:x≠"__name__":=by decide)(jH:(x==("__debug__":Str))=false:=by decide)
  (a3:starEach (e::ae) X.env=(false,eval e X.env)::starEach ae X.env:=by rfl) (d2:(backTo pos (starEach ae X.env)).any (·.1)=false:=by rfl):a9 X (.Call (.Name x p) (e::ae) [] pos) (nU r t):=by
 intro ac s L H Q I h;refine oO (rH I bL hm ba ?_ aB jH);exact DA (bC (az pos ac s L H _ I h) λ us al ⟨vs,H1,a4,b0,q1⟩=>ak al L H1 vs us Q a4 b0 q1) a3 d2
end
end ef
namespace c8
open PySem PyProof.Rows
section
variable{prog:Program}{w:World}{A:Around}{E:Value->Shared->Prop}{s:Shared}
def dn (n d:Nat):Option Int->Nat
 |none=>d
 |some v=>if v<0 then(v+(n:Int)).toNat else min v.toNat n
def XR (n d):dn n d none=d:=rfl
def ER (n d k:Nat):dn n d (some (k:Int))=min k n:=by show(if (k:Int)<0 then((k:Int)+(n:Int)).toNat else min (k:Int).toNat n)=min k n;rw[ay ⇑1,N6]
def Pk (n d)(hd:d<=n)(o):dn n d o<=n:=by
 cases o with
 |none=>exact hd
 |some v=>
  show(if v<0 then(v+(n:Int)).toNat else min v.toNat n)<=n;by_cases ba:v<0;·rw[aA ba];omega
  ·rw[ay ba];exact Oc _ _
end
end c8
namespace ef
open PySem PySem.Spec PyProof.Rows
abbrev jJ:=St->aP->(Option Int->aP->Prop)->Prop
def Ak (X:bE)(e:Option Expr)(t:jJ):Prop:=∀⦃ac⦄ s L H Q,Inv X ac L H s->t L H Q->⇑4 (evalPart e X.env) (λ u aV=>∃o J,Inv X ac L J aV/\IsPart u o/\Q o J) X.dG s
def XS:jJ:=λ _ H Q=>Q none H
inductive XTj(Q:Option Int->aP->Prop)(x:V)(H1:aP):Prop|mk i:x=.int i->Q (some i) H1->XTj Q x H1
def XT (t:TE):jJ:=λ L H Q=>t L H (XTj Q)
section
variable{X:bE}{e:Expr}{cc:TE}{lo aj:Option Expr}{bl Al:jJ}{pos fP:Pos}
def t6:Ak X none XS:=by intro _ _ _ H _ I h;rw[evalPart_none];exact bq ⟨none,H,I,.none,h⟩
def qf (h:a9 X e cc):Ak X (some e) (XT cc):=by intro ac s L H _ I hw;rw[evalPart_some];refine bC (h s L H _ I hw) λ _ _ ⟨_,H1,a4,b0,q1⟩=>?_;obtain⟨i,rfl,q⟩:=q1;obtain⟨t,rfl⟩:=b0;exact⟨some i,H1,a4,.int i t,q⟩
def ES (X:bE)(r:V->Option Int->Option Int->aP->d7->Prop):Prop:=∀⦃ac⦄ s L H x v t7 t8 lo aj sl Q,Inv X ac L H s->RelV x v->s.heap.IsSliceOf sl t7 t8 .none->IsPart t7 lo->IsPart t8 aj->r x lo aj H Q->∃T id,typeLookup (.type T) "__getitem__"=pure (some (.builtin id))/\s.TypeIs v T/\⇑4 (getItem v (.ref sl)) (g7 X ac L Q) X.dG s
def XU (r:V->Option Int->Option Int->aP->d7->Prop)(cc:TE)(bl Al:jJ):TE:=λ L H Q=>cc L H λ x H1=>bl L H1 λ l aE=>Al L aE λ u bj=>r x l u bj Q
def rX (ab:ES X r)(a3:a9 X e cc)(ah:Ak X lo bl)(a1:Ak X aj Al):a9 X (.Subscript e (.Slice lo aj none fP) pos) (XU r cc bl Al):=by intro ac s L H Q I h;refine Subscript_ (bC (a3 s L H _ I h) λ v al ⟨x,H1,a4,b0,q1⟩=>?_);refine wpAny_Slice (bC (ah al L H1 _ a4 q1) λ t7 aq ⟨l,aE,b8,pl,bb⟩=>bC (a1 aq L aE _ b8 bb) λ t8 aO ⟨u,bj,dM,xk,eF⟩=>?_);rw[evalPart_none];refine bq ?_;have jb:Inv X ac L bj {aO with heap:=aO.heap.push {cls:=.type "slice",data:=.fields #[t7,t8,.none]}}:=dM.kept (t':=aO.toks) λ _ _ q=>dq _ q;obtain⟨_,_,aM,a_,bL⟩:=ab {aO with heap:=aO.heap.push {cls:=.type "slice",data:=.fields #[t7,t8,.none]}} L bj x v t7 t8 l u ⇑aO Q jb b0 (Heap.IsSliceOf.new ..) pl xk eF;exact tail_any (ops:=[.ref ⇑aO,v]) a_ aM bL (by with_unfolding_all rfl)
def lK (xs:List V)(lo aj:Option Int):List V:=(xs.drop (c8.dn xs.length 0 lo)).take (c8.dn xs.length xs.length aj - c8.dn xs.length 0 lo)
def XV (xs)(lo aj):(lK xs lo aj).length<=xs.length:=by unfold lK;rw[c5,lx];omega
end
def kX (n:Nat)(i:Int):Option Nat:=if 0<=i then(if i<n then some i.toNat else none) else if -(n:Int)<=i then some (i+n).toNat else none
def kY {bO:Type}(xs:List bO)(i:Int):Option bO:=(kX xs.length i).bind λ j=>xs[j]?
def ET (h:kX n i=some j):seqIndex? i n=some j/\j<n/\ -(n:Int)<=i/\i<n:=by
 unfold kX at h;by_cases aX:0<=i
 ·rw[aA aX] at h;by_cases D:i<n
  ·rw[aA D] at h;have e:=eV h;exact⟨by rw[seqIndex_of aX D,e],⇑1,⇑1,D⟩
  ·rw[ay D] at h;cases h
 ·rw[ay aX] at h;by_cases D: -(n:Int)<=i
  ·rw[aA D] at h;have e:=eV h;exact⟨by rw[Eg ⇑1 D,e],⇑1,D,⇑1⟩
  ·rw[ay D] at h;cases h
def Pl (h:kY xs i=some v):∃j,seqIndex? i xs.length=some j/\xs[j]?=some v/\j<xs.length/\ -(xs.length:Int)<=i/\i<xs.length:=by
 unfold kY at h;cases e:kX xs.length i with
 |none=>rw[e] at h;cases h
 |some j=>rw[e] at h;obtain⟨D,G,an,aU⟩:=ET e;exact⟨j,D,h,G,an,aU⟩
def XW {xs:List bO}{j:Nat}{v:bO}(h:xs[j]?=some v):kY xs (j:Int)=some v:=by
 have a0:j<xs.length:=(c_.mp h).1;have e:kX xs.length (j:Int)=some j:=by unfold kX;rw[aA ⇑1,aA ⇑1];simp
 unfold kY;rw[e];exact h
def xl (xs:List bO)(v:bO):kY (xs++[v]) (-1)=some v:=by
 have ah:(xs++[v]).length=xs.length+1:=by simp
 have e:kX (xs++[v]).length (-1)=some xs.length:=by unfold kX;rw[ah,ay ⇑0,aA ⇑1];congr 1;omega
 unfold kY;rw[e];simp
def XX (b:Expr):Prop:=∀o i,subscripted b false o i=operate [o,i] (getItem o i)
def EU (X:bE)(r:hV):Prop:=∀value t9 ac s L H x y v u Q,Inv X ac L H s->RelV x v->RelV y u->r x y H Q->subscripted t9 false v u=operate [v,u] (getItem v u)->⇑4 (subscriptTail value t9 v u) (g7 X ac L Q) X.dG s
def lL (X:bE)(id:String)(r:V->List V->aP->d7->Prop):Prop:=∀⦃ac⦄ s L H x xs v us Q,Inv X ac L H s->RelV x v->Vals xs us->r x xs H Q->⇑4 (call (.builtin id) (v::us)) (g7 X ac L Q) X.dG s
section
variable{X:bE}{a b:Expr}{bx dd:TE}{pos:Pos}
def hy (ab:EU X r)(az:a9 X a bx)(Y:a9 X b dd)(au:XX b):a9 X (.Subscript a b pos) (o3 r bx dd):=by intro ac _ L _ Q I h;exact Subscript_ (EF az Y I h λ v u aq x y aE b8 bt bo q=>ab a b ac aq L aE x y v u Q b8 bt bo q (au _ _))
inductive XY(K:Frag)(x y:V)(H:aP)(Q:d7):Prop|mk p xs i v:x=.ref p->y=.int i->aG K H p xs->kY xs i=some v->Q v H->XY K x y H Q
inductive XZ(K:Frag)(x y:V)(H:aP)(Q:d7):Prop|mk p xs i v:x=.ref p->y=.int i->dh K H p xs->kY xs i=some v->Q v H->XZ K x y H Q
def jf:EU X (XY X.K):=by
 intro _ _ ac s L H x _ _ _ Q I bt bo h au;obtain⟨_,_,i,B,rfl,rfl,aK,a3,q⟩:=h;cases bt;obtain⟨_,rfl⟩:=bo;obtain⟨aR,r,pl,_⟩:=I.list aK;obtain⟨j,D,G,_,aU,bY⟩:=Pl a3;obtain⟨w,rY,hc⟩:=r.get G;have ah:=r.length;have aB:=xi;have cY:g7 X ac L Q w s:=⟨B,H,I,hc,q⟩;by_cases aX:0<=i
 ·have a0:i.toNat=j:=by rw[seqIndex_of aX bY] at D;exact eV D
  exact item_listR pl.isList aX ⇑1 (by rw[a0];simpa using rY) cY au
 ·have a0:(i+(aR.toArray.size:Int)).toNat=j:=by rw[Eg ⇑1 aU] at D;rw[fk,<-ah];exact eV D
  exact subscriptTail_builtinR (x:=w) pl.isList.typeIs slot_list_getitem.lookup
   (wpAny_getItem_list_neg (Q:=λ r aV=>r=w/\g7 X ac L Q r aV) pl.isList ⇑1 (by rw[fk]<;>omega) ⇑1 (by rw[a0];simpa using rY) ⟨z,cY⟩) au
def Am:EU X (XZ X.K):=by
 intro _ _ ac s L H x _ _ _ Q I bt bo h au;obtain⟨_,_,_,B,rfl,rfl,aK,a3,q⟩:=h;cases bt;obtain⟨_,rfl⟩:=bo;obtain⟨_,r,pl,_⟩:=I.tuple aK;obtain⟨j,D,G,_,_,_⟩:=Pl a3;obtain⟨w,rY,hc⟩:=r.get G;have ah:=r.length;have aB:=xi;have cY:g7 X ac L Q w s:=⟨B,H,I,hc,q⟩;exact subscriptTail_builtinR (x:=w) pl.typeIs slot_tuple_getitem.lookup
  (getItem_tuple (j:=j) (Q:=λ r aV=>r=w/\g7 X ac L Q r aV) pl ⇑1 ⇑1 (by rw[fk,<-ah];exact D) ↥rY ⟨z,cY⟩) au
def X0 (aR:List Value)(n j)(u):Obj.mapSeq (·.setIfInBounds j u) {cls:=.type "list",data:=.seq aR.toArray n}={cls:=.type "list",data:=.seq (aR.set j u).toArray n}:=by simp[Obj.mapSeq]
def Inv.lst (I:Inv X ac L H s)(h:H p=some (.lst xs)):∃aR n,Vals xs aR/\s.heap.get? p=some {cls:=.type "list",data:=.seq aR.toArray n}/\xs.length<=sizeLine:=by obtain⟨B,aR,n,r,e⟩:=I.bi p _ h;exact⟨aR,n,r,e,B⟩
def Inv.X1 {aR its':List Value}(I:Inv X ac L H s)(h:H p=some (.lst xs))
  (aT:s.heap.get? p=some {cls:=.type "list",data:=.seq aR.toArray n}) (aS:f {cls:=.type "list",data:=.seq aR.toArray n}={cls:=.type "list",data:=.seq its'.toArray f9}) (r:Vals ys its') (hz:ys.length<=sizeLine) (t):
  Inv X ac L (upd H p (.lst ys)) {s with heap:=s.heap.update p f,toks:=t}:=by
 have e:(s.heap.update p f).get? p=some {cls:=.type "list",data:=.seq its'.toArray f9}:=by rw[rk f aT (by rw[aS]<;>rfl),aS]
 refine I.write (x:=p) (e:=p) (by rw[h];trivial) (.inl z) (λ _ _ Y q=>(ms _ _ (i7 Y)).trans q) ⟨_,e⟩ ?_;exact⟨hz,its',f9,r,e⟩
inductive X2(o i:V)(v:V)(H:aP)(Q:aP->Prop):Prop|mk p xs k j:o=.ref p->i=.int k->H p=some (.lst xs)->kX xs.length k=some j->Q (upd H p (.lst (xs.set j v)))->X2 o i v H Q
def set_list:OO X X2:=by
 intro ac s L H _ _ v _ _ u _ I X3 An cv h;obtain⟨p,xs,k,j,rfl,rfl,ar,a0,q⟩:=h;cases X3;obtain⟨_,rfl⟩:=An;obtain⟨aR,n,r,aT,hz⟩:=I.lst ar;obtain⟨D,_,an,aU⟩:=ET a0;have ah:=r.length;have aB:=xi;have hU:Inv X ac L (upd H p (.lst (xs.set j v))) {s with heap:=s.heap.update p (Obj.mapSeq (·.setIfInBounds j u))}:=I.X1 ar aT (X0 aR n j u) (r.set cv j) (by rw[p3];exact hz) s.toks
 by_cases aX:0<=k
 ·have ax:k.toNat=j:=by rw[seqIndex_of aX aU] at D;exact eV D
  exact PySem.W.ki_setAt aT aX ⇑1 (by rw[fk,<-ah];exact aU) (by rw[ax];exact⟨_,hU,q⟩)
 ·have ax:(k+(aR.toArray.size:Int)).toNat=j:=by rw[Eg ⇑1 an] at D;rw[fk,<-ah];exact eV D
  exact PySem.W.ki_setBack aT ⇑1 (by rw[fk,<-ah];exact an) ⇑1 (by rw[ax];exact⟨_,hU,q⟩)
def X4 (lo aj)(n):(sliceBounds lo aj none n).1=((c8.dn n 0 lo:Nat):Int)/\(sliceBounds lo aj none n).2.1=((c8.dn n n aj:Nat):Int)/\(sliceBounds lo aj none n).2.2=1:=by
 refine⟨?_,?_,z⟩
 ·cases lo with
  |none=>simp[sliceBounds,c8.dn]
  |some i=>
   simp only[sliceBounds,c8.dn,DU,show(1:Int)>0 by decide,iq];by_cases h:i<0;·simp only[h,iq]<;>omega
   ·simp only[h,ip]<;>omega
 ·cases aj with
  |none=>simp[sliceBounds,c8.dn]
  |some i=>
   simp only[sliceBounds,c8.dn,DU,show(1:Int)>0 by decide,iq];by_cases h:i<0;·simp only[h,iq]<;>omega
   ·simp only[h,ip]<;>omega
def X5 (aR:List Value)(lo aj):slicePick aR.toArray lo aj none=((aR.drop (c8.dn aR.length 0 lo)).take (c8.dn aR.length aR.length aj - c8.dn aR.length 0 lo)).toArray:=by obtain⟨D,G,an⟩:=X4 lo aj aR.toArray.size;unfold slicePick;rw[D,G,an];simp only[sliceRange_one,pick_run,fk]<;>rfl
inductive X6(K:Frag)(x:V)(lo:Option Int)(aj:Option Int)(H:aP)(Q:d7):Prop|mk a xs:x=.ref a->aG K H a xs->(∀p,H p=none->Q (.ref p) (upd H p (.lst (lK xs lo aj))))->X6 K x lo aj H Q
def xm:ES X (X6 X.K):=by intro _ s _ _ _ _ _ _ lo aj _ _ I bt au pl xk h;obtain⟨_,xs,rfl,aa,q⟩:=h;cases bt;obtain⟨_,r,a_,hz⟩:=I.list aa;have bR:=r.length;refine⟨"list",_,slot_list_getitem.lookup,a_.isList.typeIs,?_⟩;refine wpAny_getItem_list_slice a_.isList au pl xk .none ⇑2 ?_ (by rw[fk]<;>omega);rw[X5,<-bR];refine⟨.ref ⇑s,_,I.laid (t':=s.toks) (o:=.lst (lK xs lo aj)) (λ _ _ q=>dq _ q) (bG _) ?_,z,q _ (I.bi.fresh (bG _))⟩;exact⟨cK (XV xs lo aj) hz,_,0,(r.drop (c8.dn xs.length 0 lo)).take (c8.dn xs.length xs.length aj - c8.dn xs.length 0 lo),eU _ z⟩
def mO:V->Bool
 |.b6=>true
 |.bg _=>true
 |.int _=>true
 |.str _=>true
 |_=>false
def lM:V->V->Bool
 |.b6,.b6=>true
 |.bg a,.bg b=>a==b
 |.bg a,.int b=>(if a then 1 else 0)==b
 |.int a,.bg b=>a==(if b then 1 else 0)
 |.int a,.int b=>a==b
 |.str a,.str b=>a==b
 |_,_=>false
def qzz:lM (.int i) (.int j)=(i==j):=rfl
def X7 (bo:RelV y u)(bt:RelV x v)(xn:mO y=true)(jK:mO x=true):SeqAt.EqAt A s u v (lM y x):=by
 cases y with
 |b6=>
  cases bo;cases x with
  |b6=>cases bt;exact SeqAt.EqAt.same _
  |bg b=>cases bt;exact SeqAt.EqAt.none_bool b
  |int b=>obtain⟨t,rfl⟩:=bt;exact SeqAt.EqAt.none_int b t
  |str b=>obtain⟨t,rfl⟩:=bt;exact SeqAt.EqAt.none_str b t
  |_=>exact absurd (show false=true from jK) eo
 |bg a=>
  cases bo;cases x with
  |b6=>cases bt;exact SeqAt.EqAt.bool_none a
  |bg b=>cases bt;exact SeqAt.EqAt.bool_bool a b
  |int b=>obtain⟨t,rfl⟩:=bt;exact SeqAt.EqAt.bool_int a b t
  |str b=>obtain⟨t,rfl⟩:=bt;exact SeqAt.EqAt.bool_str a b t
  |_=>exact absurd (show false=true from jK) eo
 |int a=>
  obtain⟨t',rfl⟩:=bo;cases x with
  |b6=>cases bt;exact SeqAt.EqAt.int_none a t'
  |bg b=>cases bt;exact SeqAt.EqAt.int_bool a t' b
  |int b=>obtain⟨t,rfl⟩:=bt;exact SeqAt.EqAt.int_int a t' b t
  |str b=>obtain⟨t,rfl⟩:=bt;exact SeqAt.EqAt.int_str a t' b t
  |_=>exact absurd (show false=true from jK) eo
 |str a=>
  obtain⟨t',rfl⟩:=bo;cases x with
  |b6=>cases bt;exact SeqAt.EqAt.str_none a t'
  |bg b=>cases bt;exact SeqAt.EqAt.str_bool a t' b
  |int b=>obtain⟨t,rfl⟩:=bt;exact SeqAt.EqAt.str_int a t' b t
  |str b=>obtain⟨t,rfl⟩:=bt;exact SeqAt.EqAt.str_str a t' b t
  |_=>exact absurd (show false=true from jK) eo
 |_=>exact absurd (show false=true from xn) eo
def o8 (x:V)(u:Value):Bool:=match u with
 |.none=>lM .b6 x
 |.bool b=>lM (.bg b) x
 |.int i _=>lM (.int i) x
 |.str B _=>lM (.str B) x
 |_=>false
def Pm (r:RelV y u)(f:mO y=true):o8 x u=lM y x:=by
 cases y with
 |b6=>cases r;rfl
 |bg b=>cases r;rfl
 |int i=>obtain⟨t,rfl⟩:=r;rfl
 |str B=>obtain⟨t,rfl⟩:=r;rfl
 |_=>exact absurd (show false=true from f) eo
theorem EV:∀{xs:List V}{us:List Value},Vals xs us->xs.all mO=true->us.any (o8 x)=xs.any λ y=>lM y x
 |_,_,.nil,_=>rfl
 |y::xs,u::us,.cons r t,f=>by rw[tD,dF] at f;rw[jC,jC,Pm r f.1,EV t f.2]
theorem EW (bt:RelV x v)(jK:mO x=true):∀{xs:List V}{us:List Value},Vals xs us->xs.all mO=true->∀u∈us,SeqAt.EqAt A s u v (o8 x u)
 |_,_,.nil,_=>λ u a1=>by cases a1
 |y::xs,u::us,.cons r t,f=>λ lD a1=>by
  rw[tD,dF] at f;rcases bN.mp a1 with rfl|a1
  ·rw[Pm r f.1];exact X7 r bt f.1 jK
  ·exact EW bt jK t f.2 lD a1
def eb (x:V)(xs:List V):Bool:=xs.any λ y=>lM y x
inductive Pn(K:Frag)(neg:Bool)(x y:V)(H:aP)(Q:d7):Prop|mk p xs:y=.ref p->(aG K H p xs\/dh K H p xs)->mO x=true->xs.all mO=true->Q (.bg (if neg then !eb x xs else eb x xs)) H->Pn K neg x y H Q
def mP:gt X (compareOp .In) (Pn X.K false):=by
 intro _ _ _ H x _ _ _ _ I bt bo h;obtain⟨_,_,rfl,aK,jK,bT,q⟩:=h;cases bo;rcases aK with aK|aK
 ·obtain⟨aR,r,pl,hz⟩:=I.list aK;refine SeqAt.in_listAt (o8 x) pl.isList (λ w hw=>EW bt jK r bT w ↥hw) ⟨.bg _,H,I,z,?_⟩;rw[show aR.toArray.any (o8 x)=aR.any (o8 x) by simp,EV r bT];exact q
 ·obtain⟨aR,r,pl,hz⟩:=I.tuple aK;refine SeqAt.in_tupleAt (o8 x) pl (λ w hw=>EW bt jK r bT w ↥hw) ⟨.bg _,H,I,z,?_⟩;rw[show aR.toArray.any (o8 x)=aR.any (o8 x) by simp,EV r bT];exact q
inductive LN(K:Frag)(xs:List V)(H:aP)(Q:d7):Prop|mk p ys:xs=[.ref p]->(aG K H p ys\/dh K H p ys)->Q (.int ys.length) H->LN K xs H Q
def fJ:jF X (.builtin "len") (LN X.K):=by
 intro _ s _ H xs _ Q I r h;obtain⟨p,ys,rfl,aK,q⟩:=h;obtain⟨_,rfl,bt⟩:=vals1 r;cases bt;have aB:=xi;rcases aK with aK|aK
 ·obtain⟨aR,eE,pl,hz⟩:=I.list aK;have bR:=eE.length;exact Calls.call_len_list pl.isList (by simp only[fk]<;>omega) ⟨.int ys.length,H,I.tok _,⟨s.toks+1,by rw[fk,bR]⟩,q⟩
 ·obtain⟨aR,eE,pl,hz⟩:=I.tuple aK;have bR:=eE.length;exact len_tuple pl (by simp only[fk]<;>omega) ⟨.int ys.length,H,I.tok _,⟨s.toks+1,by rw[fk,bR]⟩,q⟩
def xo:jF X (.builtin "len") (λ xs H Q=>∃B,xs=[.str B]/\B.length<=sizeLine/\Q (.int B.length) H):=by intro _ _ _ H xs _ Q I r h;obtain⟨B,rfl,_,q⟩:=h;obtain⟨_,rfl,_,rfl⟩:=vals1 r;have aB:=xi;exact len_str ⇑1 ⟨.int B.length,H,I.tok _,⟨_,z⟩,q⟩
def X8:jF X (.type "list") (λ xs H Q=>∃p ys,xs=[.ref p]/\(aG X.K H p ys\/dh X.K H p ys)/\∀l,H l=none->Q (.ref l) (upd H l (.lst ys))):=by
 intro ac s L H xs _ Q I r h;obtain⟨p,ys,rfl,aK,q⟩:=h;obtain⟨_,rfl,bt⟩:=vals1 r;cases bt;have cY:∀(aR:List Value),Vals ys aR->ys.length<=sizeLine->∀(h':Heap)(dw:Nat),(∀b fz,s.heap.get? b=some fz->h'.get? b=some fz)->
   h'.get? ⇑s=some {cls:=.type "list",dict:=none,data:=.seq aR.toArray dw,slots:= #[]}->g7 X ac L Q (.ref ⇑s) {s with heap:=h'}:=λ aR eE hz h' dw et e=>
  ⟨.ref ⇑s,_,I.laid (t':=s.toks) et (bG _) (show e8 X.prog X.w _ h' _ (.lst ys) from⟨hz,aR,dw,eE,e⟩),z,q _ (I.bi.fresh (bG _))⟩
 rcases aK with aK|aK
 ·obtain⟨aR,eE,pl,hz⟩:=I.list aK;have bR:=eE.length;obtain⟨o,aT,ak,n,hd⟩:=pl.isList;exact call_list_seq p (.inl z) aT ak hd (λ h' dw et e=>cY aR eE hz h' dw et e) (by simp only[fk]<;>omega)
 ·obtain⟨aR,eE,pl,hz⟩:=I.tuple aK;have bR:=eE.length;obtain⟨o,aT,ak,n,hd⟩:=pl;exact call_list_seq p (.inr z) aT ak hd (λ h' dw et e=>cY aR eE hz h' dw et e) (by simp only[fk]<;>omega)
def Po (K:Frag)(T:String)(x:V)(H:aP):Prop:=match x with
 |.str _=>T="str"
 |.int _=>T="int"
 |.ref p=>(T="list"/\∃xs,aG K H p xs)\/(T="tuple"/\∃o,K.lookup p=some o/\o.cls=.type "tuple"/\o.dict=none)\/
   (T="dict"/\((∃aw,H p=some (.cT aw))\/∃aw,H p=some (.e7 aw)))\/(T="set"/\∃S n,H p=some (.set S n))
 |_=>False
def X9 {T:String}(I:Inv X ac L H s)(r:RelV x v)(ty:Po X.K T x H):
  s.TypeIs v T/\∀a,v=.ref a->∃ob,s.heap.get? a=some ob/\ob.dict=none:=by
 cases x with
 |str B=>obtain⟨t,rfl⟩:=r;cases (show T="str" from ty);exact⟨ry s B t,λ _ e=>nomatch e⟩
 |int i=>obtain⟨t,rfl⟩:=r;cases (show T="int" from ty);exact⟨typeIs_int s i t,λ _ e=>nomatch e⟩
 |ref p=>
  cases r;rcases ty with⟨rfl,xs,aK⟩|⟨rfl,o,ax,ak,hd⟩|⟨rfl,ax⟩|⟨rfl,S,n,ax⟩
  ·obtain⟨_,_,pl,_⟩:=I.list aK;refine⟨pl.isList.typeIs,λ a e=>?_⟩;cases e;obtain⟨o,n,e,_,hd,_⟩:=pl;exact⟨o,e,hd⟩
  ·refine⟨⟨o,I.iN p o ax,ak⟩,λ a e=>?_⟩;cases e;exact⟨o,I.iN _ o ax,hd⟩
  ·have B:∃o,s.heap.get? p=some o/\o.ExactDict:=by
    rcases ax with⟨aw,ax⟩|⟨aw,ax⟩
    ·obtain⟨_,_,_,_,o,_,_,e,ex,_⟩:=I.bi p _ ax;exact⟨o,e,ex⟩
    ·obtain⟨_,_,_,_,o,_,_,e,ex,_⟩:=I.bi p _ ax;exact⟨o,e,ex⟩
   obtain⟨o,e,ex⟩:=B;refine⟨⟨o,e,ex.1⟩,λ a ao=>?_⟩;cases ao;exact⟨o,e,ex.2.1⟩
  ·obtain⟨o,_,_,_,e,ex,_⟩:=I.bi p _ ax;refine⟨⟨o,e,ex.1⟩,λ a ao=>?_⟩;cases ao;exact⟨o,e,ex.2.1⟩
 |_=>exact False.elim ty
def Pp (K:Frag)(T:String)(r:V->List V->aP->d7->Prop)(dP:TE)(t:eX):TE:=λ L H Q=>dP L H λ x H1=>Po K T x H1/\t L H1 λ xs aE=>r x xs aE Q
variable{o e:Expr}{ae:List Expr}{dP:TE}{t:eX}{name:Str}{d1 gh:Pos}{T id:String}{r:V->List V->aP->d7->Prop}
def Ao (EX:PlainAttrs T)(slot:Slot T name id)(qg:typeOf (.builtin id)=pure (.type "method_descriptor"))(hm:lL X id r)(aT:a9 X o dP)(az:gf X (e::ae) t)
  (mQ:attributeBase o name X.env (eval o X.env)=eval o X.env:=by rfl)
  (qh:((backTo gh (starEach (e::ae) X.env)).all (λ x=> !x.1)&&(backToKw gh (keywordEach [] X.env)).all (λ x=>x.1.isSome)
   &&decide ((e::ae).length+([]:List Keyword).length+(if ([]:List Keyword).isEmpty then 0 else 1)<30))=true:=by rfl)
  (mR:(d1.endLine==gh.line)=true:=by rfl) (au:starEach (e::ae) X.env=(false,eval e X.env)::starEach ae X.env:=by rfl) (EY:(backTo gh (starEach ae X.env)).any (·.1)=false:=by rfl):
  a9 X (.Call (.Attribute o name d1) (e::ae) [] gh) (Pp X.K T r dP t):=by
 intro ac s L H Q I h;refine wpAny_Call_method_late mQ qh mR z (bC (aT s L H _ I h) λ v al ⟨x,H1,a4,b0,ty,q1⟩=>?_);obtain⟨D,G⟩:=X9 a4 b0 ty;refine⟨T,id,EX,slot,qg,D,G,?_⟩;have lN:=az gh ac al L H1 _ a4 q1;rw[au] at lN⊢;refine to (by show(false||(backTo gh (starEach ae X.env)).any (·.1))=false;rw[EY]<;>rfl) (wD ?_);exact bC lN λ us aq ⟨vs,aE,b8,de,bb⟩=>hm aq L aE x vs v us Q b8 b0 de bb
end
def EZ (X:bE)(id:String)(r:V->List V->aP->d7->Prop):Prop:=∀⦃ac⦄ s L H x xs v us Q,Inv X ac L H s->RelV x v->Vals xs us->r x xs H Q->⇑4 (call (.builtin id) (v::us)) (g7 X ac L Q) X.dG s
theorem Vals.one:∀{x:V}{us:List Value},Vals [x] us->∃u,us=[u]/\RelV x u
 |_,_,.cons r .nil=>⟨_,z,r⟩
theorem Vals.eraseIdx:∀{xs:List V}{us:List Value}(i:Nat),Vals xs us->Vals (xs.eraseIdx i) (us.eraseIdx i)
 |_,_,_,.nil=>.nil
 |_,_,0,.cons _ t=>t
 |_,_,i+1,.cons r t=>.cons r (Vals.eraseIdx i t)
theorem Pq {bO:Type}:∀(l:List bO)(i:Nat),(l.eraseIdx i).length<=l.length
 |[],_=>bG _
 |_::_,0=>mz _
 |_::r,i+1=>DV (Pq r i)
section
variable{X:bE}{ac:List (Addr×Obj)}{L:St}{H:aP}{s:Shared}{l b:Addr}{xs ys qi:List V}
def Inv.E0 {aR its':List Value}(I:Inv X ac L H s)(kl:H l=some (.lst xs))
  (e:s.heap.get? l=some {cls:=.type "list",data:=.seq aR.toArray n}) (aS:f aR.toArray=its'.toArray) (ba:Vals ys its') (hz:ys.length<=sizeLine):
  Inv X ac L (upd H l (.lst ys)) {s with heap:=s.heap.update l (Obj.mapSeq f),toks:=t'}:=by
 have q:=PySem.IsL.update e f;rw[aS] at q;refine I.write (x:=l) (e:=l) (by rw[kl];exact trivial) (.inl z) (λ _ _ Y a1=>(ms s.heap (Obj.mapSeq f) (i7 Y)).trans a1) ⟨_,q⟩ ?_;exact⟨hz,its',_,ba,q⟩
def Inv.X_ (I:Inv X ac L H s)(ba:Vals ys aR)(hz:ys.length<=sizeLine):
  Inv X ac L (upd H ⇑s (.lst ys)) {s with heap:=s.heap.push {cls:=.type "list",data:=.seq aR.toArray},toks:=t'}:=
 I.laid (λ _ _ q=>dq _ q) (bG _) ⟨hz,aR,0,ba,eU _ z⟩
def Inv.fresh (I:Inv X ac L H s):H ⇑s=none:=I.bi.fresh (bG _)
def Inv.t_ (I:Inv X ac L H s)(kl:H l=some (.lst xs)):xs.length<=sizeLine/\∃aR n,Vals xs aR/\xs.length=aR.length/\s.heap.get? l=some {cls:=.type "list",data:=.seq aR.toArray n}:=by obtain⟨B,aR,n,r,e⟩:=I.bi l _ kl;exact⟨B,aR,n,r,r.length,e⟩
def X' (h:n<=sizeLine):Builtin.List.listTooLong n=false:=by unfold Builtin.List.listTooLong;exact eA ⇑1
end
section
variable{X:bE}
inductive Pr(x:V)(vs:List V)(H:aP)(Q:d7):Prop|mk l xs y:x=.ref l->vs=[y]->H l=some (.lst xs)->xs.length<sizeLine->Q .b6 (upd H l (.lst (xs++[y])))->Pr x vs H Q
def Ya:EZ X "list.append" Pr:=by intro _ _ _ _ _ _ _ _ _ I bt cv h;obtain⟨l,_,_,rfl,rfl,kl,_,q⟩:=h;cases bt;obtain⟨u,rfl,gS⟩:=cv.one;obtain⟨_,aR,n,r,_,e⟩:=I.t_ kl;refine p8 N0 ⟨_,e,z⟩ F.entry_list_append (F.args_list_append_2 _ _) (PySem.list_append l aR.toArray n u (by rw[fk];omega)) ⟨e,?_⟩;refine⟨.b6,_,I.E0 (its':=aR++[u]) kl e ⇑2 (r.append (.cons gS .nil)) ?_,z,q⟩;rw[cX,kQ];omega
inductive Ps(x:V)(vs:List V)(H:aP)(Q:d7):Prop|mk l b xs qi:x=.ref l->vs=[.ref b]->H l=some (.lst xs)->H b=some (.lst qi)->xs.length+qi.length<=sizeLine->Q .b6 (upd H l (.lst (xs++qi)))->Ps x vs H Q
def Yb:EZ X "list.extend" Ps:=by
 intro _ _ _ _ _ _ _ _ _ I bt cv h;obtain⟨l,b,_,_,rfl,rfl,kl,hY,_,q⟩:=h;cases bt;obtain⟨_,rfl,gS⟩:=cv.one;cases gS;obtain⟨_,aR,n,r,_,e⟩:=I.t_ kl;obtain⟨_,nV,cp,de,_,ao⟩:=I.t_ hY;have hsz:aR.toArray.size+nV.toArray.size<=sizeLine:=by rw[fk,fk];omega
 have Yc:¬(!aR.toArray.isEmpty&&Builtin.List.listTooLong (aR.toArray.size+nV.toArray.size))=true:=by rw[X' hsz,D3];exact eo
 refine p8 N1 ⟨_,e,z⟩ F.entry_list_extend (F.args_list_extend_2 _ _)
  (AutoSeq1.list_extend_list_list_0 l aR.toArray n b nV.toArray cp Yc (by rw[fk];omega) ⇑1) ⟨e,ao,?_⟩
 refine⟨.b6,_,I.E0 (its':=aR++nV) kl e ⇑2 (r.append de) ?_,z,q⟩;rw[cX];omega
inductive Yd(x:V)(vs:List V)(H:aP)(Q:d7):Prop|mk l xs i k y:x=.ref l->vs=[.int i]->H l=some (.lst xs)-> -(2 ^ 63)<=i->i<2 ^ 63->seqIndex? i xs.length=some k->xs[k]?=some y->Q y (upd H l (.lst (xs.eraseIdx k)))->Yd x vs H Q
def Ye:EZ X "list.pop" Yd:=by
 intro _ _ _ _ _ _ _ _ _ I bt cv h;obtain⟨l,xs,i,k,y,rfl,rfl,kl,D,G,ax,aC,q⟩:=h;cases bt;obtain⟨_,rfl,gS⟩:=cv.one;obtain⟨t,rfl⟩:=gS;obtain⟨_,aR,n,r,ah,e⟩:=I.t_ kl;obtain⟨w,hw,hc⟩:=r.get aC;refine p8 Om ⟨_,e,z⟩ F.entry_list_pop (F.args_list_pop_2 _ _)
  (MeetsSeq.list_pop_at l aR.toArray n i t k w (fitsIndex_both D G) (by rw[fk,<-ah];exact ax) (by rw[<-tn];exact hw) (by rw[fk];omega)) ⟨e,?_⟩
 refine⟨y,_,I.E0 (its':=aR.eraseIdx k) kl e ?_ (r.eraseIdx k) ?_,hc,q⟩
 ·show aR.toArray.eraseIdxIfInBounds k=(aR.eraseIdx k).toArray;rw[List.eraseIdxIfInBounds_toArray]
 ·have:=Pq xs k;omega
inductive Pt(x y:V)(H:aP)(Q:d7):Prop|mk l b xs qi:x=.ref l->y=.ref b->H l=some (.lst xs)->H b=some (.lst qi)->xs.length+qi.length<=sizeLine->(∀p,H p=none->Q (.ref p) (upd H p (.lst (xs++qi))))->Pt x y H Q
def jL:gt X (binaryOp .Add) Pt:=by
 intro _ s _ _ _ _ _ _ _ I bt bo h;obtain⟨_,_,_,_,rfl,rfl,kl,hY,_,q⟩:=h;cases bt;cases bo;obtain⟨_,aR,_,r,_,e⟩:=I.t_ kl;obtain⟨_,nV,_,de,_,ao⟩:=I.t_ hY;refine PySem.P.add_list e ao ?_ (by rw[fk,fk];omega);have ej:aR.toArray++nV.toArray=(aR++nV).toArray:=by simp
 rw[ej];exact⟨.ref _,_,I.X_ (t':=s.toks) (r.append de) (by rw[cX];omega),z,q _ I.fresh⟩
end
theorem Vals.ints:∀{ns:List Int}{us:List Value},Vals (ns.map V.int) us->IntsAre us ns
 |[],us,h=>by rw[dc] at h;cases h;exact IntsAre.nil
 |n::ns,us,h=>by
  rw[bU] at h;cases h with
  |cons r t=>obtain⟨k,rfl⟩:=r;exact IntsAre.cons n k (Vals.ints t)
theorem E1:∀{us:List Value}{ns:List Int},IntsAre us ns->Vals (ns.map V.int) us
 |_,_,.nil=>by rw[dc];exact Paired.nil
 |_,_,.cons n t h=>by rw[bU];exact Paired.cons (show RelV (V.int n) (Value.int n t) from⟨t,z⟩) (E1 h)
theorem Vals.strs:∀{xs:List Str}{us:List Value},Vals (xs.map V.str) us->StrsAre us xs
 |[],us,h=>by rw[dc] at h;cases h;exact StrsAre.nil
 |x::xs,us,h=>by
  rw[bU] at h;cases h with
  |cons r t=>obtain⟨k,rfl⟩:=r;exact StrsAre.cons x k (Vals.strs t)
theorem Pu:∀{us:List Value}{xs:List Str},StrsAre us xs->Vals (xs.map V.str) us
 |_,_,.nil=>by rw[dc];exact Paired.nil
 |_,_,.cons x t h=>by rw[bU];exact Paired.cons (show RelV (V.str x) (Value.str x t) from⟨t,z⟩) (Pu h)
theorem Vals.E2:∀{bs:List Bool}{us:List Value},Vals (bs.map V.bg) us->us=bs.map Value.bool
 |[],us,h=>by rw[dc] at h;cases h;rfl
 |b::bs,us,h=>by
  rw[bU] at h;cases h with
  |cons r t=>cases r;rw[Vals.E2 t,bU]
def Vals.xp (r:Vals [V.ref a] us):us=[Value.ref a]:=by
 cases r with
 |cons r t=>cases t;cases r;rfl
def Pw (ah:s.heap.IsList l items)
  (h:∀ir:Shared,ir={s with heap:=s.heap.push {cls:=.type "list_iterator",data:=.fields #[.ref l,.int 0 0]}}->
   (ir.heap.IsListIter ⇑s l 0/\ir.heap.IsList l items)->l≠⇑s->Q (.ref ⇑s) ir):⇑5 (pyIter (.ref l)) Q E s:=by
 have c6:l<⇑s:=by obtain⟨_,e,_⟩:=ah;exact c2 e
 exact p1 ah (h _ z ⟨⟨_,eU _ z,z,z⟩,ah.push _⟩ (er c6))
def Px {bs:List Bool}(e:aR=bs.map Value.bool):
  TruthOf prog w A (λ i v=>aR.toArray[i]?=some v) (λ i=>bs.getD i false):=λ i v s Q _ ba aK=>by
 have nS:aR[i]?=some v:=by simpa using ba
 rw[e,d5] at nS;obtain⟨b,Y,rfl⟩:=lv.mp nS;have bL:bs.getD i false=b:=by rw[mr,Y]<;>rfl
 have iR:Q (bs.getD i false) s:=aK;rw[bL] at iR;exact oR iR
theorem any_range:∀bs:List Bool,(List.range bs.length).any (λ i=>bs.getD i false)=bs.any id
 |[]=>rfl
 |b::bs=>by
  rw[cJ,DG,jC,rt,jC,<-any_range bs]
  all_goals rfl
theorem all_range:∀bs:List Bool,(List.range bs.length).all (λ i=>bs.getD i false)=bs.all id
 |[]=>rfl
 |b::bs=>by
  rw[cJ,DG,tD,ru,tD,<-all_range bs]
  all_goals rfl
section
variable{X:bE}
inductive Yf(K:Frag)(vs:List V)(H:aP)(Q:d7):Prop|mk (a:Addr)(bs:List Bool):vs=[V.ref a]->aG K H a (bs.map V.bg)->Q (.bg (bs.any id)) H->Yf K vs H Q
inductive Yg(K:Frag)(vs:List V)(H:aP)(Q:d7):Prop|mk (a:Addr)(bs:List Bool):vs=[V.ref a]->aG K H a (bs.map V.bg)->Q (.bg (bs.all id)) H->Yg K vs H Q
def Yh (ak:X.calm=true):jF X (.builtin "any") (Yf X.K):=by
 intro _ _ _ H _ _ _ I r h;obtain⟨a,_,rfl,au,q⟩:=h;obtain⟨aR,cv,ah,_⟩:=I.list au;rw[Vals.xp r];have Y:=cv.E2;refine call_any_walk (Pw ah.isList λ _ ao st ek=>?_);subst ao;refine⟨_,_,_,_,_,_,_,z,zY (A:=X.A.in1) (I.ok.hd ak) _ a ek aR.toArray,st,Px Y,λ _ _ ax=>?_⟩;refine⟨.bg _,H,I.kept λ b o eP=>ax b o (λ mS=>?_) (dq _ eP),?_,q⟩
 ·rcases bN.mp mS with ap|mS
  ·exact absurd (ap▸c2 eP) (kc _)
  ·cases mS
 ·show Value.bool _=Value.bool _;rw[<-any_range,Y,fk,be]
def Ap (ak:X.calm=true):jF X (.builtin "all") (Yg X.K):=by
 intro _ _ _ H _ _ _ I r h;obtain⟨a,_,rfl,au,q⟩:=h;obtain⟨aR,cv,ah,_⟩:=I.list au;rw[Vals.xp r];have Y:=cv.E2;refine call_all_walk (Pw ah.isList λ _ ao st ek=>?_);subst ao;refine⟨_,_,_,_,_,_,_,z,zY (A:=X.A.in1) (I.ok.hd ak) _ a ek aR.toArray,st,Px Y,λ _ _ ax=>?_⟩;refine⟨.bg _,H,I.kept λ b o eP=>ax b o (λ mS=>?_) (dq _ eP),?_,q⟩
 ·rcases bN.mp mS with ap|mS
  ·exact absurd (ap▸c2 eP) (kc _)
  ·cases mS
 ·show Value.bool _=Value.bool _;rw[<-all_range,Y,fk,be]
end
mutual
inductive he (K:Frag)(H:aP):V->PyData->Prop
 |b6:he K H .b6 .none
 |bg (b:Bool):he K H (.bg b) (.bool b)
 |int (i:Int):he K H (.int i) (.int i)
 |str (x:Str):he K H (.str x) (.str x)
 |lst {a:Addr} {xs:List V} {bH:List PyData}:aG K H a xs->rZ K H xs bH->he K H (.ref a) (.list bH)
 |tup {a:Addr} {xs:List V} {bH:List PyData}:dh K H a xs->rZ K H xs bH->he K H (.ref a) (.tuple bH)
inductive rZ (K:Frag)(H:aP):List V->List PyData->Prop
 |nil:rZ K H [] []
 |cons {v:V} {vs:List V} {d:PyData} {bH:List PyData}:he K H v d->rZ K H vs bH->rZ K H (v::vs) (d::bH)
end
section
variable{X:bE}{ac:List (Addr×Obj)}{L:St}{H:aP}{s:Shared}
mutual
theorem he.reads (I:Inv X ac L H s):∀(d:PyData)(v:V)(u:Value),he X.K H v d->RelV v u->∃as,Reads s.heap u d as
 |.none,_,_,h,r=>by cases h;cases r;exact⟨_,Reads.none⟩
 |.bool b,_,_,h,r=>by cases h;cases r;exact⟨_,Reads.bool b⟩
 |.int i,_,_,h,r=>by cases h;obtain⟨t,rfl⟩:=r;exact⟨_,Reads.int i t⟩
 |.str x,_,_,h,r=>by cases h;obtain⟨t,rfl⟩:=r;exact⟨_,Reads.str x t⟩
 |.list bH,_,_,h,r=>by
  cases h with
  |lst au az=>cases r;obtain⟨aR,cv,⟨o,n,aT,ak,_,hd⟩,_⟩:=I.list au;obtain⟨as,ab⟩:=he.readsAll I bH _ aR az cv;exact⟨_,Reads.list aT ak hd ab⟩
 |.tuple bH,_,_,h,r=>by
  cases h with
  |tup au az=>cases r;obtain⟨aR,cv,⟨o,aT,ak,n,hd⟩,_⟩:=I.tuple au;obtain⟨as,ab⟩:=he.readsAll I bH _ aR az cv;exact⟨_,Reads.tuple aT ak hd ab⟩
 |.dict _,_,_,h,_=>by cases h
theorem he.readsAll (I:Inv X ac L H s):∀(bH:List PyData)(vs:List V)(us:List Value),rZ X.K H vs bH->Vals vs us->∃as,ReadsAll s.heap us bH as
 |[],_,_,h,r=>by cases h;cases r;exact⟨_,ReadsAll.nil⟩
 |d::bH,_,_,h,r=>by
  cases h with
  |cons D G=>
   cases r with
   |cons b0 de=>obtain⟨as,q1⟩:=he.reads I d _ _ D b0;obtain⟨_,bb⟩:=he.readsAll I bH _ _ G de;exact⟨_,ReadsAll.cons q1 bb⟩
end
end
section
variable{X:bE}
inductive Yi(K:Frag)(x y:V)(H:aP)(Q:d7):Prop|mk d e:he K H x d->he K H y e->SeqAt.shaped d=true->SeqAt.shaped e=true->Q (.bg (PyData.eqv d e)) H->Yi K x y H Q
def Yj (a1:X.A.units+64<cLine):gt X (compareOp .Eq) (Yi X.K):=by intro _ _ _ H x y v u _ I bt bo h;obtain⟨d,e,hd,a3,bv,bD,q⟩:=h;obtain⟨_,b0⟩:=he.reads I d x v hd bt;obtain⟨_,de⟩:=he.reads I e y u a3 bo;exact SeqAt.compareEq_shaped b0 de bv bD a1 ⟨.bg _,H,I,z,q⟩
end
abbrev Py (h:Heap)(c:Addr)(v:Option Value):Prop:=h.IsCell c v
def Yk (scope dz:Scope):Scope:={scope with names:=scope.names.map λ(n,k)=>if (k== .free&&dz.kind== .function&&dz.names.lookup n==some .cell) then(n,.cell) else(n,k)}
def hf (cells:List (Str×Addr)):List (Str×NameKind)->List (Str×Addr)->List (Str×Addr)
 |[],aY=>aY
 |(n,k)::r,aY=>if k== .free then hf cells r ((n,(cells.lookup n).getD 0)::aY) else hf cells r aY
theorem Pz (env:Env)(f:Str×NameKind->List (Str×Addr)->Sem (ForInStep (List (Str×Addr))))
  (aS:∀n k c,f (n,k) c=if k== .free then(do let a<-cellOf env n;pure (.yield ((n,a)::c))) else pure (.yield c)):
  ∀(names:List (Str×NameKind))(aY:List (Str×Addr)),(∀y∈names,y.2=.free->∃c,env.cells.lookup y.1=some c)->forIn names aY f=pure (hf env.cells names aY)
 |[],aY,_=>by rw[List.forIn_nil];rfl
 |(n,k)::r,aY,h=>by
  rw[List.forIn_cons,aS];have ih:=λ aY=>Pz env f aS r aY λ y aC=>h y (cu _ aC);unfold hf;by_cases ax:(k==NameKind.free)=true
  ·rw[aA ax,aA ax];obtain⟨c,ak⟩:=h (n,k) cn ↥ax;have e:cellOf env n=pure c:=by unfold cellOf;rw[ak]
   rw[e];have ao:(env.cells.lookup n).getD 0=c:=by rw[ak];rfl
   rw[ao];exact ih _
  ·rw[ay ax,ay ax];exact ih _
def Yl (h:∀y∈scope.names,y.2=.free->∃c,env.cells.lookup y.1=some c):closureFor scope env=pure (hf env.cells scope.names []):=by simp only[closureFor];rw[Pz env _ (λ _ _ c=>rfl) scope.names [] h];rfl
theorem mem_lookup {bO:Type}:∀{l:List (Str×bO)}{n:Str}{c:bO},(n,c)∈l->∃dw,l.lookup n=some dw
 |(k,v)::r,n,c,h=>by
  rw[nG];cases Y:n==k with
  |true=>exact⟨_,z⟩
  |false=>
   rcases bN.mp h with e|h;·cases e;simp at Y
   ·exact mem_lookup h
theorem Aq {cells:List (Str×Addr)}:∀{names:List (Str×NameKind)}{aY:List (Str×Addr)}{n:Str}{c:Addr},(n,c)∈hf cells names aY->(n,c)∈aY\/((n,.free)∈names/\c=(cells.lookup n).getD 0)
 |[],_,_,_,h=>.inl h
 |(m,k)::r,aY,n,c,h=>by
  unfold hf at h;split at h
  ·rename_i ax;have ax:k=.free:=by simpa using ax
   rcases Aq h with h|⟨D,G⟩
   ·rcases bN.mp h with e|h
    ·cases e;exact .inr ⟨ax▸cn,z⟩
    ·exact .inl h
   ·exact .inr ⟨cu _ D,G⟩
  ·rcases Aq h with h|⟨D,G⟩
   ·exact .inl h
   ·exact .inr ⟨cu _ D,G⟩
theorem E3:∀{names:List (Str×NameKind)}{aY:List (Str×Addr)}{p:Str×Addr},p∈aY->p∈hf cells names aY
 |[],_,_,h=>h
 |(m,k)::r,aY,p,h=>by
  unfold hf;split;·exact E3 (cu _ h)
  ·exact E3 h
theorem E4:∀{names:List (Str×NameKind)}{aY:List (Str×Addr)}{n:Str},(n,.free)∈names->(n,(cells.lookup n).getD 0)∈hf cells names aY
 |(m,k)::r,aY,n,h=>by
  unfold hf;rcases bN.mp h with e|h
  ·cases e;exact E3 cn
  ·split
   ·exact E4 h
   ·exact E4 h
theorem xq:∀{names:List (Str×NameKind)}{h:Heap}{aY:List (Str×Addr)}{x:Str}{c:Addr},(x,c)∈cellsFrom h.objs.size names aY->
  (x,c)∈aY\/((x,.cell)∈names/\h.objs.size<=c/\Py (pushCells h names) c none)
 |[],_,_,_,_,h=>.inl h
 |(n,k)::r,h,aY,x,c,hm=>by
  unfold cellsFrom at hm;unfold pushCells;split at hm
  ·rename_i ax;rw[aA ax];have ax:k=.cell:=by simpa using ax
   rw[<-g5 h {cls:=.type "cell",data:=.cell none}] at hm;rcases xq hm with hm|⟨D,G,an⟩
   ·rcases bN.mp hm with e|hm
    ·cases e;exact .inr ⟨ax▸cn,bG _,_,zP r _ _ _ (eU _ z),z⟩
    ·exact .inl hm
   ·rw[g5] at G;exact .inr ⟨cu _ D,zI G,an⟩
  ·rename_i ax;rw[ay ax];rcases xq hm with hm|⟨D,G,an⟩
   ·exact .inl hm
   ·exact .inr ⟨cu _ D,G,an⟩
theorem Ar:∀{names:List (Str×NameKind)}{n:Nat}{aY:List (Str×Addr)}{p:Str×Addr},p∈aY->p∈cellsFrom n names aY
 |[],_,_,_,h=>h
 |(m,k)::r,n,aY,p,h=>by
  unfold cellsFrom;split;·exact Ar (cu _ h)
  ·exact Ar h
theorem E5:∀{names:List (Str×NameKind)}{n:Nat}{aY:List (Str×Addr)}{x:Str},(x,.cell)∈names->∃c,(x,c)∈cellsFrom n names aY
 |(m,k)::r,n,aY,x,h=>by
  unfold cellsFrom;rcases bN.mp h with e|h
  ·cases e;exact⟨n,Ar cn⟩
  ·split
   ·exact E5 h
   ·exact E5 h
theorem E6:∀{names:List (Str×NameKind)}{h:Heap}{aY:List (Str×Addr)}{x y:Str}{c:Addr},(∀p∈aY,p.2<h.objs.size)->(∀x y c,(x,c)∈aY->(y,c)∈aY->x=y)->
  (x,c)∈cellsFrom h.objs.size names aY->(y,c)∈cellsFrom h.objs.size names aY->x=y
 |[],_,_,_,_,_,_,aj,D,G=>aj _ _ _ D G
 |(n,k)::r,h,aY,x,y,c,ah,aj,D,G=>by
  unfold cellsFrom at D G;split at D
  ·rename_i ax;rw[aA ax] at G;rw[<-g5 h {cls:=.type "cell",data:=.cell none}] at D G;refine E6 (h:=h.push _) (λ p ar=>?_) (λ x y c a b=>?_) D G
   ·rw[g5];rcases bN.mp ar with rfl|ar
    ·exact nF _
    ·exact mx (ah p ar)
   ·rcases bN.mp a with e|a<;>rcases bN.mp b with bW|b
    ·cases e;cases bW;rfl
    ·cases e;exact absurd (ah _ b) (kc _)
    ·cases bW;exact absurd (ah _ a) (kc _)
    ·exact aj _ _ _ a b
  ·rename_i ax;rw[ay ax] at G;exact E6 ah aj D G
def Ym {code:Value}
  (h:Q (newEnv scope ⇑s globals (cellsFrom (⇑s+1) scope.names closure) cL func code (some Yn) builtins)
   {s with heap:=pushCells (s.heap.push {cls:=.type "dict",data:=.dict #[]}) scope.names}):
  wpAny dU A (newFunctionEnv scope globals closure [] cL func code (some Yn) builtins) Q E s:=by
 simp only[newFunctionEnv,N2,iq];refine aL (wpAny_alloc ?_);refine aL (wpAny_layCells _ (λ _ _ _=>rfl) scope.names closure _ _ ?_);rw[show({s with heap:=s.heap.push {cls:=.type "dict",data:=.dict #[]}}:Shared).heap.objs.size=⇑s+1 from g5 ..];rw[List.forIn_nil];exact aL (bq (bq h))
theorem E7 {dz:Scope}:∀{names:List (Str×NameKind)}{x:Str}{k:NameKind},
  (names.map λ(n,k)=>if (k==NameKind.free&&dz.kind== .function&&dz.names.lookup n==some .cell) then(n,NameKind.cell) else(n,k)).lookup x=some k->
  ∃hW,names.lookup x=some hW/\(k=hW\/(hW=.free/\k=.cell))
 |[],_,_,h=>by simp at h
 |(n,xr)::r,x,k,h=>by
  have ih:=@E7 dz r x k;have h':List.lookup x ((if (xr==NameKind.free&&dz.kind== .function&&dz.names.lookup n==some .cell)=true then(n,NameKind.cell) else(n,xr))::(r.map _))=some k:=h;cases aa:x==n with
  |true=>
   simp only[nG,aa];by_cases ak:(xr==NameKind.free&&dz.kind== .function&&dz.names.lookup n==some .cell)=true
   ·rw[aA ak] at h';simp only[nG,aa] at h';cases h';simp only[dF,d_] at ak;exact⟨xr,z,.inr ⟨ak.1.1,z⟩⟩
   ·rw[ay ak] at h';simp only[nG,aa] at h';cases h';exact⟨_,z,.inl z⟩
  |false=>
   simp only[nG,aa];by_cases ak:(xr==NameKind.free&&dz.kind== .function&&dz.names.lookup n==some .cell)=true
   ·rw[aA ak] at h';simp only[nG,aa] at h';exact ih h'
   ·rw[ay ak] at h';simp only[nG,aa] at h';exact ih h'
structure xt (N:List Str)(dz scope:Scope)(own:List (Str×Nat)):Prop where
 kind:scope.kind=.function
 uniq:∀y∈scope.names,scope.names.lookup y.1=some y.2
 ua:∀p∈own,N[p.2]?=some p.1
 free:∀y∈scope.names,y.2=.free->dz.names.lookup y.1=some .cell\/dz.names.lookup y.1=some .free
 own:∀y∈scope.names,y.2=.local\/y.2=.cell->y.1∈own.map (·.1)\/y.1∉N
def wipe (L:St):List Nat->St
 |[]=>L
 |v::vs=>(wipe L vs).set v none
theorem E8 (L):∀vs:List Nat,(wipe L vs).length=L.length
 |[]=>rfl
 |v::vs=>by unfold wipe;rw[p3,E8 L vs]
theorem E9 {L:St}{i:Nat}{x:V}:∀{vs:List Nat},(wipe L vs)[i]?=some (some x)->L[i]?=some (some x)/\i∉vs
 |[],h=>⟨h,⇑2⟩
 |v::vs,h=>by
  unfold wipe at h;by_cases aj:v=i
  ·subst aj;by_cases ba:v<(wipe L vs).length
   ·rw[wx ba] at h;cases h
   ·rw[wy ↥ba] at h;cases h
  ·rw[zC aj] at h;obtain⟨D,G⟩:=E9 h;exact⟨D,by simp only[bN,not_or];exact⟨λ e=>aj e.symm,G⟩⟩
abbrev bE.hZ (X:bE)(s:Shared)(H:aP)(scope:Scope)(gJ:Env)(b2:List Addr):bE:={X with hx:=s,w1:=H,env:=gJ,outer:=X.stack,ex:=b2,fn:=λ x=>scope.names.lookup x==some .cell,kU:=[],dG:=λ _ _=>False}
section
variable{X:bE}{ac:List (Addr×Obj)}{L:St}{H:aP}{s:Shared}
def Yo (I:Inv X ac L H s)(ok:xt X.N X.env.scope scope own)(d6:X.N.Nodup)(qj:∀b∈b2,lJ X ac H b/\b<⇑s):
  Inv (X.hZ s H scope (compEnvC scope (cellsFrom (⇑s+1) scope.names (hf X.env.cells scope.names [])) ⇑s X.env) b2) [] (wipe L (own.map (·.2))) H {s with heap:=pushCells (s.heap.push {cls:=.type "dict",data:=.dict #[]}) scope.names}:=by
 have tP:∀y∈scope.names,y.2=.free->∃c,X.env.cells.lookup y.1=some c:=λ y aC e=>by
  rcases ok.free y aC e with k|k;·exact I.ok.has _ (.inl k)
  ·exact I.ok.has _ (.inr k)
 generalize xu:compEnvC scope (cellsFrom (⇑s+1) scope.names (hf X.env.cells scope.names [])) ⇑s X.env=gJ;have et:∀b o,s.heap.get? b=some o->(pushCells (s.heap.push {cls:=.type "dict",data:=.dict #[]}) scope.names).get? b=some o:=λ b o e=>zP _ _ _ _ (dq _ e);have cq:gJ.locals=⇑s:=by rw[<-xu];rfl
 have fC:gJ.cells=cellsFrom (⇑s+1) scope.names (hf X.env.cells scope.names []):=by rw[<-xu];rfl
 have E_:gJ.scope=Yk scope X.env.scope:=by rw[<-xu];rfl
 rw[<-g5 s.heap {cls:=.type "dict",data:=.dict #[]}] at fC;have xv:∀{y c},(y,c)∈hf X.env.cells scope.names []->X.env.cells.lookup y=some c/\c<⇑s:=λ {y c} hm=>by
  rcases Aq hm with hm|⟨D,rfl⟩;·cases hm
  ·obtain⟨c,ak⟩:=tP _ D z;rw[ak];obtain⟨w,B⟩:=I.cell _ _ ak;exact⟨z,B.lt⟩
 have mem:∀{y c},gJ.cells.lookup y=some c->(X.env.cells.lookup y=some c/\c<⇑s)\/(⇑s+1<=c/\Py (pushCells (s.heap.push {cls:=.type "dict",data:=.dict #[]}) scope.names) c none):=λ {y c} e=>by
  rw[fC] at e;rcases xq (jA e) with hm|⟨_,G,an⟩
  ·exact .inl (xv hm)
  ·rw[g5] at G;exact .inr ⟨G,an⟩
 have look:∀{y},scope.names.lookup y=some .free->∃c,gJ.cells.lookup y=some c/\X.env.cells.lookup y=some c:=λ {y} ah=>by
  have aC:=jA ah;obtain⟨dw,bW⟩:=mem_lookup (Ar (names:=scope.names) (n:=(s.heap.push {cls:=.type "dict",data:=.dict #[]}).objs.size) (E4 (cells:=X.env.cells) (aY:=[]) aC));rw[<-fC] at bW;refine⟨dw,bW,?_⟩;rw[fC] at bW;rcases xq (jA bW) with hm|⟨D,_,_⟩
  ·exact(xv hm).1
  ·have:=ok.uniq _ D;rw[ah] at this;cases this
 have Yp:(X.hZ s H scope gJ b2).Ok:=by
  refine⟨I.ok.mod,by show gJ.scope.kind=_;rw[E_];exact ok.kind,by show gJ.globals=_;rw[<-xu];exact I.ok.glob,by show gJ.builtins=_;rw[<-xu];exact I.ok.blt,by show ⇑s<=gJ.locals;rw[cq];exact bG _,
   λ y B c ap ao=>?_,λ y aC=>?_,λ y c B e=>?_,I.ok.hd,I.ok.frames,.inl z,λ b Y=>⟨?_,λ y c e B=>?_⟩,I.bs,cK I.ok.oZ I.tO,λ b o e Y=>?_,λ b Y B=>?_,I.stack,I.Ox⟩
  ·have ap:=ap;have ao:=ao;rw[fC] at ap ao;refine E6 (λ p ar=>?_) (λ y B c a b=>I.ok.inj y B c (xv a).1 (xv b).1) (jA ap) (jA ao);rw[g5];exact mx (xv (y:=p.1) (c:=p.2) ar).2
  ·show ∃c,gJ.cells.lookup y=some c;have key:∀k,gJ.kindOf y=some k->(k=.cell\/k=.free)->∃c,gJ.cells.lookup y=some c:=λ k ax jM=>by
    unfold Env.kindOf at ax;rw[E_] at ax;obtain⟨hW,e,r⟩:=E7 ax;have:hW=.cell\/hW=.free:=by
     rcases r with rfl|⟨rfl,_⟩;·exact jM
     ·exact .inr z
    rcases this with rfl|rfl
    ·obtain⟨c,hm⟩:=E5 (n:=(s.heap.push {cls:=.type "dict",data:=.dict #[]}).objs.size) (aY:=hf X.env.cells scope.names []) (jA e);obtain⟨dw,bW⟩:=mem_lookup hm;exact⟨dw,by rw[fC];exact bW⟩
    ·obtain⟨c,D,_⟩:=look e;exact⟨c,D⟩
   rcases aC with aC|aC;·exact key _ aC (.inl z)
   ·exact key _ aC (.inr z)
  ·have B:=B;have B:scope.names.lookup y=some .cell:=by simpa using B
   have e:=e;rw[fC] at e;rcases xq (jA e) with hm|⟨_,G,_⟩
   ·rcases Aq hm with hm|⟨D,_⟩
    ·cases hm
    ·have q:=ok.uniq _ D;rw[B] at q;cases q
   ·rw[g5] at G;exact zI G
  ·show b≠gJ.locals;rw[cq];exact er (qj b Y).2
  ·have e:=e;rcases mem e with⟨D,_⟩|⟨D,_⟩
   ·exact(qj b Y).1.2.2.2.2.1 y c D B
   ·have G:⇑s+1<=b:=by rw[<-B];exact D
    exact absurd (hp (qj b Y).2 (zI G)) (kc _)
  ·rcases (qj b Y).1.2.2.2.1 with B|B
   ·exact I.ok.w3 b o e B
   ·exact absurd (hp (c2 e) (cK I.ok.oZ B)) (kc _)
  ·rcases bN.mp (I.Ek b B) with B|B
   ·exact(qj b Y).1.2.1 B
   ·exact(qj b Y).1.2.2.1 B
 refine⟨Yp,z,I.bare,gp.kept et,⟨λ _=>none,?_,λ i y Yq ap ao bz=>?_⟩,λ y c e=>?_,?_,λ y c e=>?_,λ p ar=>?_,I.bi.kept et,by rw[E8];exact I.len⟩
 ·show Heap.Ns _ gJ.locals _;rw[cq];exact Heap.Ns.keeps (Heap.Ns.new ..) λ b o e=>zP _ _ _ _ e
 ·obtain⟨ao,ek⟩:=E9 ao;have lO:scope.names.lookup y=some .free/\(gJ.kindOf y=some .cell\/gJ.kindOf y=some .free):=by
   have key:∀k,gJ.scope.names.lookup y=some k->k=.local\/k=.cell\/k=.free->scope.names.lookup y=some .free/\(gJ.kindOf y=some .cell\/gJ.kindOf y=some .free):=λ k ax jM=>by
    have As:=ax;rw[E_] at ax;obtain⟨hW,e,r⟩:=E7 ax;have qk:¬(hW=.local\/hW=.cell):=λ b3=>by
     rcases ok.own _ (jA e) b3 with bW|bW
     ·obtain⟨p,ar,Yr⟩:=cd.mp bW;have bz:=ok.ua p ar;have:p.1=y:=Yr;rw[this] at bz;exact ek (cd.mpr ⟨p,ar,El d6 bz ap⟩)
     ·exact bW (gc ap)
    rcases r with rfl|⟨rfl,rfl⟩
    ·rcases jM with rfl|rfl|rfl
     ·exact absurd (.inl z) qk
     ·exact absurd (.inr z) qk
     ·exact⟨e,.inr As⟩
    ·exact⟨e,.inl As⟩
   have bz:=bz;rcases bz with bz|bz|bz
   ·exact key _ bz (.inl z)
   ·exact key _ bz (.inr (.inl z))
   ·exact key _ bz (.inr (.inr z))
  obtain⟨_,_,ah⟩:=I.loc;have Ys:z1 X.env.scope y:=(ok.free _ (jA lO.1) z).elim (λ k=>.inr (.inl k)) (λ k=>.inr (.inr k));obtain⟨w,r,q⟩:=ah i y Yq ap ao Ys;refine⟨w,r,.inr ⟨lO.2,?_⟩⟩;obtain⟨c,D,G⟩:=look lO.1;rcases q with⟨k,_⟩|⟨_,dw,bW,B⟩
  ·have k:X.env.scope.names.lookup y=some .local:=k;rcases ok.free _ (jA lO.1) rfl with hW|hW<;>rw[show X.env.scope.names.lookup y=_ from hW] at k<;>cases k
  ·rw[G] at bW;cases bW;exact⟨c,D,B.keeps et⟩
 ·have e:=e;rcases mem e with⟨D,_⟩|⟨_,B⟩
  ·obtain⟨w,B⟩:=I.cell y c D;exact⟨w,B.keeps et⟩
  ·exact⟨_,B⟩
 ·show H gJ.locals=none;rw[cq];exact I.bi.fresh (bG _)
 ·have e:=e;rcases mem e with⟨D,_⟩|⟨D,_⟩
  ·exact I.mC y c D
  ·exact I.bi.fresh (zI D)
 ·exact absurd (show p∈([]:List (Addr×Obj))++[] from ar) ⇑2
def Yt (I:Inv X ac L H s)(cr:H af=some (.lst xs))(hz:xs.length<sizeLine)(r:RelV y v)
  (h:∀aV,Inv X ac L (upd H af (.lst (xs++[y]))) aV->Q .none aV):⇑4 (call (.builtin "list.append") [.ref af,v]) Q E s:=by
 obtain⟨_,aR,n,An,e⟩:=I.bi af _ cr;have ah:=An.length;refine append_at (hsz:=by rw[fk];omega) e λ h' d8 lC=>?_;refine h {s with heap:=h'} (I.write (t':=s.toks) (by rw[cr];trivial) (.inl z) (λ b _ Y q=>(d8.2 b Y).trans q) ⟨_,lC⟩ ⟨by rw[cX];exact hz,aR++[v],n+1,An.append (.cons r .nil),?_⟩);rw[lC];simp
def xw (X:bE)(kZ:List Expr)(t:TT):Prop:=∀⦃ac⦄ s L H Q,Inv X ac L H s->t L H Q->⇑4 (forIn kZ true λ c r=>if r=true then do let ok<-isTrue c X.env (eval c X.env);pure (ForInStep.yield ok) else pure (ForInStep.yield r)) (En X ac L Q) X.dG s
def PA:TT:=λ _ H Q=>Q true H
def k0:xw X [] PA:=λ _ _ _ H _ I h=>wpAny_tests_nil ⟨H,I,h⟩
def r0 (h:kg X c t):xw X [c] t:=λ ac s L H Q I hw=>wpAny_tests_one (h s L H Q I hw)
end
def ub (h:wpAny dU A t Q (λ _ _=>False) s)(gD:∀a s,Q a s->Q' a s):wpAny dU A t Q' E s:=hu h gD λ _ _ B=>False.elim B
def Yu (I:Nat->Shared->Prop)
  (rK:∀n s,I n s->⇑5 (pyNext bP) (λ r dA=>match r with
   |none=>R (.ok .next) dA
   |some v=>⇑5 (letOwnedTupleGo xd bP v) (λ _ PB=>⇑5 (assign xd env v) (λ _ ir=>
     ⇑5 (forIn kZ true λ c r=>if r=true then do let ok<-isTrue c env (eval c env);pure (ForInStep.yield ok) else pure (ForInStep.yield r)) (λ ok uc=>
      if ok=true then ⇑5 (eval elt env) (λ x PC=>⇑5 (call (.builtin "list.append") [aY,x]) (λ _ PD=>∃m,m<n/\I m PD) (notedBy (model prog w) A env λ e aV=>R (.error e) aV) PC) (notedBy (model prog w) A env λ e aV=>R (.error e) aV) uc
      else ∃m,m<n/\I m uc) (notedBy (model prog w) A env λ e aV=>R (.error e) aV) ir) (notedBy (model prog w) A env λ e aV=>R (.error e) aV) PB) (notedBy (model prog w) A env λ e aV=>R (.error e) aV) dA) (notedBy (model prog w) A env λ e aV=>R (.error e) aV) s) (n) (h:I n s):
  codeAny (model prog w) A (.compLoop (.ListComp elt [⟨xd,iter,kZ,0⟩] scope pos) 0 bP aY env) R s:=by
 refine codeAny_loop z I (λ n s gu=>?_) n h;show wpAny _ A ((compTurn (.ListComp elt [⟨xd,iter,kZ,0⟩] scope pos) 0 bP aY env).onRaise (λ x=>do noteFrame x env;theTreesLotGoes x)) _ _ s;refine wpAny_noted ?_;rw[compTurn_list];refine aL (zU (aL (hu (rK n s gu) (λ r dA Au=>?_) λ _ _ h'=>h')));cases r with
 |none=>exact bq Au
 |some v=>
  refine aL (hu Au (λ _ PB Yv=>?_) λ _ _ h'=>h');refine aL (hu Yv (λ _ ir xx=>aL (hu xx (λ ok uc Av=>?_) λ _ _ h'=>h')) λ _ _ h'=>h');cases ok with
  |false=>exact bq ⟨z,Av⟩
  |true=>exact aL (aL (hu Av (λ x PC Yw=>aL (hu Yw (λ _ PD Yx=>bq (bq ⟨z,Yx⟩)) λ _ _ h'=>h')) λ _ _ h'=>h'))
section
variable{X:bE}
def E' (ja:TI)(g:jE)(fc:TT)(cc:TE)(vs:List Nat):TE:=λ L H Q=>ja L H λ eg H1=>∀af,H1 af=none->∃W:Nat->Nat->aP->Prop,(∃m,W 0 m (upd H1 af (.lst [])))/\∀i m H,W i m H->
 (eg.stop i H/\Q (.ref af) H)\/(eg.go i H/\∃hg:aP->Prop,(∀J,hg J->∃cP,cP<m/\W (i+1) cP J)/\∀x J,eg.nP i H x J->g x (wipe L vs) J λ c' aE=>wipe c' vs=wipe L vs/\fc c' aE λ b bj=>if b=true then cc c' bj λ y b1=>∃aY,b1 af=some (.lst aY)/\aY.length<sizeLine/\hg (upd b1 af (.lst (aY++[y]))) else hg bj)
def PE (ak:X.calm=true)(d6:X.N.Nodup)(I:Inv X ac L H s)(aj:nQ X dZ iter ja)(ok:xt X.N X.env.scope scope own)(bL:∀s H C cl b2,lH (X.hZ s H scope (compEnvC scope cl C X.env) b2) dZ g)(a_:∀s H C cl b2,xw (X.hZ s H scope (compEnvC scope cl C X.env) b2) kZ fc)(a3:∀s H C cl b2,a9 (X.hZ s H scope (compEnvC scope cl C X.env) b2) elt cc)(au:∀x,foldedSetIterable iter X.env x=pure x)(h:E' ja g fc cc (own.map (·.2)) L H Q)(Yy:∀af C aV m J,Inv X ac L J aV->Q (.ref af) J->aV.heap.Ns C m->lJ X ac J C->compPost (model X.prog X.w) X.A X.dG use Qf (.ref af) C (.ok .next) aV):⇑4 (comprehension (.ListComp elt [⟨dZ,iter,kZ,0⟩] scope pos) scope X.env lE (newList []) false (eval iter X.env) use) Qf X.dG s:=by
 have tP:∀y∈scope.names,y.2=.free->∃c,X.env.cells.lookup y.1=some c:=λ y aC e=>by
  rcases ok.free y aC e with k|k;·exact I.ok.has _ (.inl k)
  ·exact I.ok.has _ (.inr k)
 refine wpAny_comprehension_free (use:=use) z au (Yl tP) ok.kind (λ y aC e=>by rw[ok.uniq y aC,e])
  (bC (aj s L H _ I h) λ akY al aa=>bC aa λ Ez aq G=>?_)
 obtain⟨bP,b2,g9,eg,aE,e,b8,T,mI,eZ,q⟩:=G;subst e;refine tx (Ym ?_) Wp;generalize cr:⇑aq=af;have Yz:=b8.bi.fresh (wS cr);obtain⟨W,⟨xg,cB⟩,rK⟩:=q af Yz;generalize PF:({aq with heap:=aq.heap.push {cls:=.type "list",data:=.seq ([]:List Value).toArray}}:Shared)=aO;have dM:Inv X ac L (upd aE af (.lst [])) aO:=by rw[<-PF];refine b8.laid (t':=aq.toks) (λ b o e=>dq _ e) (wS cr) ⟨cQ _,[],0,.nil,?_⟩;rw[<-cr];exact eU _ z
 have an:aO.heap=aq.heap.push {cls:=.type "list",data:=.seq ([]:List Value).toArray}:=by rw[<-PF]
 have tO:∀b∈b2,b<⇑aq:=λ b Y=>by obtain⟨o,e,_⟩:=T.obj _ _ mI b Y;exact c2 e
 have eh:∀b∈b2,lJ X ac (upd aE af (.lst [])) b/\b<⇑aO:=λ b Y=>by have c6:=tO b Y;refine⟨⟨?_,(eZ b Y).2⟩,by rw[an,g5];exact mx c6⟩;rw[dv (by rw[<-cr];exact er c6)];exact(eZ b Y).1
 have Ad:g9 0 aO.heap:=T.keep _ _ _ mI λ b _ o e=>by rw[an];exact dq _ e
 have jb:=Yo dM ok d6 eh;have c3:=bL aO (upd aE af (.lst [])) ⇑aO (cellsFrom (⇑aO+1) scope.names (hf X.env.cells scope.names [])) b2;have gv:=a_ aO (upd aE af (.lst [])) ⇑aO (cellsFrom (⇑aO+1) scope.names (hf X.env.cells scope.names [])) b2;have Fa:=a3 aO (upd aE af (.lst [])) ⇑aO (cellsFrom (⇑aO+1) scope.names (hf X.env.cells scope.names [])) b2;show codeAny _ _ (.compStart (.ListComp elt [⟨dZ,iter,kZ,0⟩] scope pos) 0 (.ref bP) (.ref af) (compEnvC scope (cellsFrom (⇑aO+1) scope.names (hf X.env.cells scope.names [])) ⇑aO X.env)) (compPost (model X.prog X.w) X.A X.dG use Qf (.ref af) ⇑aO) {aO with heap:=pushCells (aO.heap.push {cls:=.type "dict",data:=.dict #[]}) scope.names};have PG:∀b∈b2,(upd aE af (.lst [])) b=none:=λ b Y=>(eh b Y).1.1;generalize YA:compEnvC scope (cellsFrom (⇑aO+1) scope.names (hf X.env.cells scope.names [])) ⇑aO X.env=ce at jb c3 gv Fa⊢;have PH:ce.locals=⇑aO:=by subst YA;rfl
 generalize k1:upd aE af (.lst [])=bj at dM jb c3 gv Fa cB PG eh;generalize YB:({aO with heap:=pushCells (aO.heap.push {cls:=.type "dict",data:=.dict #[]}) scope.names}:Shared)=bh at jb⊢;have PI:g9 0 bh.heap:=T.keep _ _ _ Ad λ b _ o e=>by rw[<-YB];exact zP _ _ _ _ (dq _ e)
 have rL:∀{cf:St}{J:aP}{aV:Shared},Inv (X.hZ aO bj scope ce b2) [] cf J aV->(∀b∈b2,J b=none)->∀b∈b2,lJ (X.hZ aO bj scope ce b2) [] J b:=λ {cf J aV} hU aB b Y=>⟨aB b Y,(hU.ok.z3 b Y).1,hU.ok.w4 b Y,.inl Y,λ x c e=>(hU.ok.z3 b Y).2 x c e,λ p ar=>absurd (show p∈([]:List (Addr×Obj))++[] from ar) ⇑2⟩
 have PJ:codeAny (model X.prog X.w) X.A (.compLoop (.ListComp elt [⟨dZ,iter,kZ,0⟩] scope pos) 0 (.ref bP) (.ref af) ce) (compPost (model X.prog X.w) X.A X.dG use Qf (.ref af) ⇑aO) bh:=by
  refine Yu (λ n aV=>∃i J,Inv (X.hZ aO bj scope ce b2) [] (wipe L (own.map (·.2))) J aV/\g9 i aV.heap/\(∀b∈b2,J b=none)/\W i n J) ?_ xg ⟨0,bj,jb,PI,PG,cB⟩;rintro n ck ⟨i,eO,tY,tZ,jN,hA⟩;rcases rK i n eO hA with⟨stop,YC⟩|⟨go,hg,YD,step⟩
  ·have cR:=T.done (X.hZ aO bj scope ce b2) z z z ak i [] ck _ eO (λ _ _=>False) tY (rL tY jN) tZ stop;refine ub cR λ r cm ⟨ab,qd⟩=>?_;subst ab;have jc:=dM.WL (ch:=b2) qd.os qd.base qd.bi qd.bare λ b Y=>⟨(eh b Y).1.2.2.2.1,(eh b Y).1.2.1,(eh b Y).1.2.2.2.2.1,(eh b Y).1.2.2.2.2.2⟩;have YE:eO ⇑aO=none:=by have B:=qd.free;rw[PH] at B;exact B
   obtain⟨m,aB,_⟩:=qd.loc;have aB:=aB;rw[PH] at aB;exact Yy af ⇑aO cm m eO jc YC aB (dM.tX (bG _) YE)
  ·have tV:=T.item (X.hZ aO bj scope ce b2) z z z ak i [] ck _ eO (λ _ _=>False) tY (rL tY jN) tZ go;refine ub tV λ r cm ⟨u,ab,gX⟩=>?_;subst ab;refine ub gX λ _ ei ⟨x,g_,jc,EC,YF,Fb,mK⟩=>?_;have YG:=jc.pinned (rL jc mK) (T.obj _ _ Fb);refine ub (c3 ei _ g_ x u _ YG EC (step x g_ YF)) λ _ fp ⟨Aw,jO,YH,PK,xy⟩=>?_;refine ub (gv fp Aw jO _ YH xy) λ b gY ⟨xz,PL,ql⟩=>?_;have cY:∀{aV:Shared}{J:aP},Inv (X.hZ aO bj scope ce b2) ([]++xh b2 ei.heap) Aw J aV->hg J->∃m,m<n/\∃i J,Inv (X.hZ aO bj scope ce b2) [] (wipe L (own.map (·.2))) J aV/\g9 i aV.heap/\(∀b∈b2,J b=none)/\W i m J:=λ {aV J} hU a7=>by
    obtain⟨cP,hm,w'⟩:=YD J a7;have PM:∀b∈b2,∀o,ei.heap.get? b=some o->aV.heap.get? b=some o/\J b=none:=λ b Y o e=>
     let B:=hU.pin (b,o) (pW _ (pW _ (EB Y e)))
     ⟨B.1,B.2.1⟩
    have ah:(wipe L (own.map (·.2))).length=Aw.length:=by rw[<-PK,E8]
    refine⟨cP,hm,i+1,J,(hU.Ac (ac:=[])).weak ah (λ j v e=>?_),T.keep _ _ _ Fb λ b Y o e=>(PM b Y o e).1,λ b Y=>?_,w'⟩
    ·rw[<-PK] at e;exact(E9 e).1
    ·obtain⟨o,e,_⟩:=T.obj _ _ Fb b Y;exact(PM b Y o e).2
   cases b with
   |false=>simp only[il,ip] at ql⊢;exact cY PL ql
   |true=>simp only[iq] at ql⊢;refine ub (Fa gY Aw xz _ PL ql) λ B iS ⟨akZ,ud,YI,YJ,aY,YK,YL,a7⟩=>?_;exact Yt (X:=X.hZ aO bj scope ce b2) YI YK YL YJ λ Ax YM=>cY YM a7
 exact codeAny_compStart_list PJ (T.self X.A 0 _ _ _ PI PJ)
def jg (ak:X.calm=true)(d6:X.N.Nodup)(aj:nQ X dZ iter ja)(ok:xt X.N X.env.scope scope own)(bL:∀s H C cl b2,lH (X.hZ s H scope (compEnvC scope cl C X.env) b2) dZ g)(a_:∀s H C cl b2,xw (X.hZ s H scope (compEnvC scope cl C X.env) b2) kZ fc)(a3:∀s H C cl b2,a9 (X.hZ s H scope (compEnvC scope cl C X.env) b2) elt cc)(au:∀x,foldedSetIterable iter X.env x=pure x:=by intro _;rfl):a9 X (.ListComp elt [⟨dZ,iter,kZ,0⟩] scope pos) (E' ja g fc cc (own.map (·.2))):=by intro _ s _ H _ I h;rw[eval_ListComp];refine PE ak d6 I aj ok bL a_ a3 au h λ af C aV m J hU q aB f=>⟨m,aB,λ _ d8=>?_⟩;obtain⟨gG,e',_,eh,fl,gH⟩:=f;exact⟨.ref af,J,hU.turned (t':=aV.toks) (λ b _ Y e=>(d8.2 b Y).trans e) gG e' eh fl gH,z,q⟩
def Ay (ak:X.calm=true)(d6:X.N.Nodup)(aC:X.N[i]?=some y)(PN:X.env.scope.names.lookup y=some .local)(YN:swapsWith (.ListComp elt [⟨dZ,iter,kZ,0⟩] scope pos) (some (.Name y ue)) YO.line X.env=pure true)(aj:nQ X dZ iter ja)(ok:xt X.N X.env.scope scope own)(bL:∀s H C cl b2,lH (X.hZ s H scope (compEnvC scope cl C X.env) b2) dZ g)(a_:∀s H C cl b2,xw (X.hZ s H scope (compEnvC scope cl C X.env) b2) kZ fc)(a3:∀s H C cl b2,a9 (X.hZ s H scope (compEnvC scope cl C X.env) b2) elt cc)(au:∀x,foldedSetIterable iter X.env x=pure x:=by intro _;rfl):kh X (.Assign [.Name y ue] (.ListComp elt [⟨dZ,iter,kZ,0⟩] scope pos) YO) (xf (E' ja g fc cc (own.map (·.2))) (mF i)):=by
 intro ac s L H af I h;rw[exec_Assign_Name_used _ _ _ _ YN];refine aL (zU (aL ?_));have h:=h;refine aL (bC (PE (Qf:=λ _ aV=>tR X ac af .next aV) ak d6 I aj ok bL a_ a3 au h λ dC C aV m J hU q aB f=>?_) λ _ aV aK=>bq (bq aK));refine wpAny_assign_Name (OB (v:=V.ref dC) hU d6 aC (.inl PN) z (λ aq b8 ⟨a,d8,az⟩=>?_) (.inr PN));obtain⟨gG,e',eZ,eh,fl,gH⟩:=f;have YP:C≠a:=by
  rcases az with B|B;·rw[B];exact e'
  ·exact λ e=>fl y a B e.symm
 refine⟨m,aB.sameBut d8 YP,λ an YQ=>?_⟩;exact⟨_,J,b8.turned (t':=aq.toks) (λ b o Y e=>(YQ.2 b Y).trans e) gG e' eh fl gH,q⟩
def Az (ax:env.scope.kind=.function)(aC:env.scope.names.lookup y=some .local)(ah:(ue.line==pos.line)=true)
  (az:(scope.names.any λ(n,k)=>n==y&&(k== .local||k== .cell))=false):swapsWith (.ListComp elt ak0 scope pos) (some (.Name y ue)) l env=pure true:=by
 have YR:env.kindOf y=some .local:=aC;have Y:env.blockKind=.function:=by unfold Env.blockKind;rw[ax];rfl
 unfold swapsWith;simp only[Y,YR,az,show(Expr.ListComp elt ak0 scope pos).pos=pos from rfl,ah];rfl
end
def km {K:Frag}{g:jE}{fc:TT}{cc:TE}{mT:aP->Prop}(Pv:Nat->aP->Prop)(aX:Pv 0 (upd H1 af (.lst [])))(ah:∀i H,i<=xs.length->Pv i H->aG K H a xs)
  (au:∀i x H,xs[i]?=some x->Pv i H->g x (wipe L vs) H λ c' aE=>wipe c' vs=wipe L vs/\fc c' aE λ b bj=>if b=true then cc c' bj λ y b1=>∃aY,b1 af=some (.lst aY)/\aY.length<sizeLine/\Pv (i+1) (upd b1 af (.lst (aY++[y]))) else Pv (i+1) bj) (hd:∀H,Pv xs.length H->mT H):
  ∃W:Nat->Nat->aP->Prop,(∃m,W 0 m (upd H1 af (.lst [])))/\∀i m H,W i m H->
   ((qb K a).stop i H/\mT H)\/((qb K a).go i H/\∃hg:aP->Prop,(∀J,hg J->∃cP,cP<m/\W (i+1) cP J)/\∀x J,(qb K a).nP i H x J->g x (wipe L vs) J λ c' aE=>wipe c' vs=wipe L vs/\fc c' aE λ b bj=>if b=true then cc c' bj λ y b1=>∃aY,b1 af=some (.lst aY)/\aY.length<sizeLine/\hg (upd b1 af (.lst (aY++[y]))) else hg bj):=by
 refine⟨λ i m H=>m=xs.length - i/\i<=xs.length/\Pv i H,⟨xs.length,⇑2,cQ _,aX⟩,?_⟩;rintro i m H ⟨rfl,aj,p⟩;have q:=ah i H aj p;by_cases c6:i<xs.length
 ·refine .inr ⟨⟨xs,xs[i],q,by simp[c6]⟩,Pv (i+1),λ J fN=>⟨xs.length - (i+1),⇑1,z,c6,fN⟩,λ x J y=>?_⟩;obtain⟨e,y⟩:=y;subst e;exact au i x _ (y xs q) p
 ·have e:i=xs.length:=by omega
  subst e;exact .inl ⟨⟨xs,q,bG _⟩,hd H p⟩
def YS {K:Frag}{g:jE}{fc:TT}{cc:TE}{mT:aP->Prop}(Pv:Nat->aP->Prop)(aX:Pv 0 (upd H1 af (.lst [])))(ah:∀i H,i<=xs.length->Pv i H->dh K H a xs)
  (au:∀i x H,xs[i]?=some x->Pv i H->g x (wipe L vs) H λ c' aE=>wipe c' vs=wipe L vs/\fc c' aE λ b bj=>if b=true then cc c' bj λ y b1=>∃aY,b1 af=some (.lst aY)/\aY.length<sizeLine/\Pv (i+1) (upd b1 af (.lst (aY++[y]))) else Pv (i+1) bj) (hd:∀H,Pv xs.length H->mT H):
  ∃W:Nat->Nat->aP->Prop,(∃m,W 0 m (upd H1 af (.lst [])))/\∀i m H,W i m H->
   ((qc K a).stop i H/\mT H)\/((qc K a).go i H/\∃hg:aP->Prop,(∀J,hg J->∃cP,cP<m/\W (i+1) cP J)/\∀x J,(qc K a).nP i H x J->g x (wipe L vs) J λ c' aE=>wipe c' vs=wipe L vs/\fc c' aE λ b bj=>if b=true then cc c' bj λ y b1=>∃aY,b1 af=some (.lst aY)/\aY.length<sizeLine/\hg (upd b1 af (.lst (aY++[y]))) else hg bj):=by
 refine⟨λ i m H=>m=xs.length - i/\i<=xs.length/\Pv i H,⟨xs.length,⇑2,cQ _,aX⟩,?_⟩;rintro i m H ⟨rfl,aj,p⟩;have q:=ah i H aj p;by_cases c6:i<xs.length
 ·refine .inr ⟨⟨xs,xs[i],q,by simp[c6]⟩,Pv (i+1),λ J fN=>⟨xs.length - (i+1),⇑1,z,c6,fN⟩,λ x J y=>?_⟩;obtain⟨e,y⟩:=y;subst e;exact au i x _ (y xs q) p
 ·have e:i=xs.length:=by omega
  subst e;exact .inl ⟨⟨xs,q,bG _⟩,hd H p⟩
def PO (N:List Str)(dz scope:Scope)(own:List (Str×Nat)):Bool:=
 (match scope.kind with|.function=>true|_=>false)&&(scope.names.all λ y=>decide (scope.names.lookup y.1=some y.2))&&(own.all λ p=>decide (N[p.2]?=some p.1))&&
  (scope.names.all λ y=>match y.2 with
   |.free=>(match dz.names.lookup y.1 with|some .cell=>true|some .free=>true|_=>false)
   |.local=>decide (y.1∈own.map (·.1))||decide (y.1∉N)
   |.cell=>decide (y.1∈own.map (·.1))||decide (y.1∉N)
   |_=>true)
def hB (h:PO N dz scope own=true):xt N dz scope own:=by
 unfold PO at h;simp only[dF,hq,fG] at h;obtain⟨⟨⟨D,G⟩,an⟩,aU⟩:=h;refine⟨?_,G,an,λ y aC e=>?_,λ y aC e=>?_⟩
 ·split at D
  ·assumption
  ·cases D
 ·have q:=aU y aC;simp only[e] at q;split at q<;>first|exact .inl (by assumption)|exact .inr (by assumption)|cases q
 ·have q:=aU y aC;rcases e with e|e<;>(simp only[e,jB,fG] at q;exact q)
section
variable{eB:Type}[DecidableEq eB]
def b4 (aw:List (eB×V))(k:eB):Option V:=(aw.find? λ ct=>decide (ct.1=k)).map (·.2)
def putK (aw:List (eB×V))(k:eB)(v:V):List (eB×V):=if (aw.any λ ct=>decide (ct.1=k))=true then aw.map (λ ct=>if ct.1=k then(ct.1,v) else ct) else aw++[(k,v)]
def Fc:b4 ([]:List (eB×V)) k=none:=rfl
def mU {r:List (eB×V)}{k:eB}(e:p.1=k):b4 (p::r) k=some p.2:=by simp[b4,io,e]
def mV {r:List (eB×V)}{k:eB}(e:¬p.1=k):b4 (p::r) k=b4 r k:=by simp[b4,io,e]
theorem uf (k):∀aw:List (eB×V),(aw.any λ ct=>decide (ct.1=k))=(b4 aw k).isSome
 |[]=>rfl
 |p::r=>by
  rw[jC];by_cases e:p.1=k;·simp only[mU e,dO e,Bool.true_or,N2]
  ·rw[mV e,eA e,Bool.false_or];exact uf k r
theorem PP (k j:eB)(y:V):∀aw:List (eB×V),b4 (aw.map λ ct=>if ct.1=k then(ct.1,y) else ct) j=(b4 aw j).map λ x=>if j=k then y else x
 |[]=>rfl
 |p::r=>by
  have ih:=PP k j y r;rw[bU];by_cases h:p.1=k
  ·rw[aA h];by_cases e:p.1=j
   ·rw[mU (p:=(p.1,y)) e,mU e,oQ,aA (e.symm.trans h)]
   ·rw[mV (p:=(p.1,y)) e,mV e,ih]
  ·rw[ay h];by_cases e:p.1=j
   ·rw[mU (p:=p) e,mU e,oQ,ay (λ B=>h (e.trans B))]
   ·rw[mV (p:=p) e,mV e,ih]
theorem Fd (k j:eB)(y:V):∀aw:List (eB×V),b4 aw k=none->b4 (aw++[(k,y)]) j=if j=k then some y else b4 aw j
 |[],_=>by
  by_cases e:k=j;·rw[aA e.symm];exact mU (p:=(k,y)) e
  ·rw[ay (λ B=>e B.symm)];exact mV (p:=(k,y)) e
 |p::r,aB=>by
  rw[tu];have ax:¬p.1=k:=λ B=>by rw[mU B] at aB;cases aB
  rw[mV ax] at aB;have ih:=Fd k j y r aB;by_cases e:p.1=j;·rw[mU e,mU e,ay (λ B=>ax (e.trans B))]
  ·rw[mV e,mV e,ih]
def ug (aw)(k j:eB)(y:V):b4 (putK aw k y) j=if j=k then some y else b4 aw j:=by
 unfold putK;by_cases a:(aw.any λ ct=>decide (ct.1=k))=true
 ·rw[aA a,PP];rw[uf] at a;by_cases e:j=k
  ·obtain⟨x,aa⟩:=jy.mp a;rw[aA e,e,aa,oQ,aA z]
  ·rw[ay e];cases b4 aw j with
   |none=>rfl
   |some x=>rw[oQ,ay e]
 ·rw[ay a];refine Fd k j y aw ?_;rw[uf] at a;cases q:b4 aw k with
  |none=>rfl
  |some x=>rw[q] at a;exact(a z).elim
def uh (aw)(k:eB)(v:V):(putK aw k v).length<=aw.length+1:=by
 unfold putK;split;·rw[be];omega
 ·rw[cX,cJ,p4];omega
def Fe {k:eB}(v:V)(h:b4 aw k=none):putK aw k v=aw++[(k,v)]:=by unfold putK;rw[uf,h];exact ay ⇑0
def gC.ui (r:gC o u):o.isSome=u.isSome:=by
 cases o with
 |none=>cases u with
  |none=>rfl
  |some _=>exact(show False from r).elim
 |some _=>cases u with
  |none=>exact(show False from r).elim
  |some _=>rfl
def gC.getD (r:gC o u)(AA:RelV d d'):RelV (o.getD d) (u.getD d'):=by
 cases o with
 |none=>cases u with
  |none=>exact AA
  |some _=>exact(show False from r).elim
 |some _=>cases u with
  |none=>exact(show False from r).elim
  |some _=>exact r
def e6.val (r:e6 aw vs)(k:eB):gC (b4 aw k) (valueAt vs k):=by
 unfold e6 at r;induction r with
 |nil=>exact True.intro
 |@cons p q ps fQ h t ih=>
  obtain⟨D,G⟩:=h;by_cases e:p.1=k
  ·have bW:=D.symm.trans e;have b:valueAt (q::fQ) k=some q.2:=by simp[valueAt,io,bW]
   rw[mU e,b];exact G
  ·have bW:¬q.1=k:=λ B=>e (D.trans B);have b:valueAt (q::fQ) k=valueAt fQ k:=by simp[valueAt,io,bW]
   rw[mV e,b];exact ih
def e6.any (r:e6 aw vs)(k:eB):(aw.any λ ct=>decide (ct.1=k))=vs.any λ ct=>decide (ct.1=k):=by
 unfold e6 at r;induction r with
 |nil=>rfl
 |cons h t ih=>rw[jC,jC,ih,h.1]
def e6.Ff (r:e6 aw vs)(k:eB)(bo:RelV y u):
  e6 (aw.map λ ct=>if ct.1=k then(ct.1,y) else ct) (vs.map λ ct=>if ct.1=k then(ct.1,u) else ct):=by
 unfold e6 at r⊢;induction r with
 |nil=>exact .nil
 |@cons p q ps fQ h t ih=>
  rw[bU,bU];refine .cons ?_ ih;obtain⟨D,G⟩:=h;by_cases e:p.1=k;·rw[aA e,aA (D.symm.trans e)];exact⟨D,bo⟩
  ·rw[ay e,ay (λ B=>e (D.trans B))];exact⟨D,G⟩
def e6.put (r:e6 aw vs)(k:eB)(bo:RelV y u):e6 (putK aw k y) (stored vs k u):=by
 unfold putK stored;rw[r.any k];by_cases e:(vs.any λ ct=>decide (ct.1=k))=true;·rw[aA e,aA e];exact r.Ff k bo
 ·rw[ay e,ay e];exact Paired.snoc r ⟨z,bo⟩
def e6.length {vs:List (eB×Value)}(r:e6 aw vs):aw.length=vs.length:=tF r
end
def k2 (r:RelV (c0 k) u):(dT P w).is k u=true:=by
 cases k with
 |inl i=>obtain⟨t,e⟩:=(show ∃t,u=Value.int i t from r);subst e;exact Ww P w i t
 |inr x=>obtain⟨t,e⟩:=(show ∃t,u=Value.str x t from r);subst e;exact Wx P w x t
def Fg (e:c0 a=c0 b):a=b:=by
 cases a with
 |inl i=>cases b with
  |inl j=>have bW:V.int i=V.int j:=e;injection bW with bW;rw[bW]
  |inr y=>exact nomatch (show V.int i=V.str y from e)
 |inr x=>cases b with
  |inl j=>exact nomatch (show V.str x=V.int j from e)
  |inr y=>have bW:V.str x=V.str y:=e;injection bW with bW;rw[bW]
theorem PQ:∀{a b:List Key},a.map c0=b.map c0->a=b
 |[],[],_=>rfl
 |[],_::_,e=>by simp at e
 |_::_,[],e=>by simp at e
 |x::xs,y::ys,e=>by
  rw[bU,bU] at e;injection e with ap ao
  rw[Fg ap,PQ ao]
theorem PR:∀{ks:List Key}{us:List Value},Vals (ks.map c0) us->ItemsAre (dT P w) ks us
 |[],_,r=>by rw[dc] at r;cases r;exact .nil
 |k::ks,_,r=>by
  rw[bU] at r;cases r with
  |cons h t=>exact .cons (k2 h) (PR t)
abbrev KT (H:aP):List (List Key×V)->List (List Key×Addr×Value)->Prop:=Paired λ p q=>p.1=q.1/\H q.2.1=some (.tup (p.1.map c0))/\RelV p.2 q.2.2
def KT.val (r:KT H aw xs)(k):gC (b4 aw k) ((atKey xs k).map (·.2)):=by
 induction r with
 |nil=>exact True.intro
 |@cons p q ps fQ h t ih=>
  obtain⟨D,_,G⟩:=h;by_cases e:p.1=k
  ·have bW:=D.symm.trans e;have b:atKey (q::fQ) k=some q.2:=by simp[atKey,io,bW]
   rw[mU e,b];exact G
  ·have bW:¬q.1=k:=λ B=>e (D.trans B);have b:atKey (q::fQ) k=atKey fQ k:=by simp[atKey,io,bW]
   rw[mV e,b];exact ih
def KT.Ff (r:KT H aw xs)(k)(bo:RelV y u):
  KT H (aw.map λ ct=>if ct.1=k then(ct.1,y) else ct) (xs.map (putAt k u)):=by
 induction r with
 |nil=>exact .nil
 |@cons p q ps fQ h t ih=>
  rw[bU,bU];refine .cons ?_ ih;obtain⟨D,G,an⟩:=h;unfold putAt;by_cases e:p.1=k;·rw[aA e,aA (D.symm.trans e)];exact⟨D,G,bo⟩
  ·rw[ay e,ay (λ B=>e (D.trans B))];exact⟨D,G,an⟩
def KT.put (r:KT H aw xs)(k)(Y:H b=some (.tup (k.map c0)))(bo:RelV y u):
  KT H (putK aw k y) (storedH xs k b u):=by
 have e:(aw.any λ ct=>decide (ct.1=k))=(atKey xs k).isSome:=by rw[uf,(r.val k).ui,pZ]
 unfold putK storedH;rw[e];by_cases q:(atKey xs k).isSome=true;·rw[aA q,aA q];exact r.Ff k bo
 ·rw[ay q,ay q];exact Paired.snoc r ⟨z,Y,bo⟩
def KT.keeps (r:KT H aw xs)(a_:∀b ys,H b=some (.tup ys)->J b=some (.tup ys)):KT J aw xs:=Paired.Ej r λ _ _ B=>⟨B.1,a_ _ _ B.2.1,B.2.2⟩
section
variable{P:Program}{w:World}{H:aP}{h:Heap}{a:Addr}
def PS (ok:eD P w H h)(e:mA H a u):e8 P w H h a u:=e.ok ok
def qm (ok:eD P w H h)(e:mA H a (.cT aw)):aw.length<=sizeLine/\(a==sysModules)=false/\∃vs,e6 aw vs/\h.DictOf (dT P w) a vs:=show e8 P w H h a (.cT aw) from PS ok e
def AB (ok:eD P w H h)(e:H a=some (.cT aw)):aw.length<=sizeLine/\(a==sysModules)=false/\∃vs,e6 aw vs/\h.DictOf (dT P w) a vs:=qm ok (.inl e)
def dr (ok:eD P w H h)(e:H a=some (.tup (ks.map c0))):(tupleKind (dT P w)).is h ks a:=by obtain⟨_,aR,r,o,D,G,n,an⟩:=(show e8 P w H h a (.tup (ks.map c0)) from ok a _ e);exact⟨o,aR.toArray,n,D,G,an,by simpa using PR r⟩
def qn (ok:eD P w H h)(e:mA H a (.e7 aw)):aw.length<=sizeLine/\(a==sysModules)=false/\
  ∃xs,KT H aw xs/\h.DictOfH (tupleKind (dT P w)) a xs:=by
 obtain⟨B,y,xs,r,o,ae,ep,D,G,an,aU,bY⟩:=(show e8 P w H h a (.e7 aw) from PS ok e);refine⟨B,y,xs,r,o,ae,ep,D,G,an,aU,λ x aa=>?_,bY⟩;have all:∀{l:List (List Key×V)}{m:List (List Key×Addr×Value)},KT H l m->∀x∈m,(tupleKind (dT P w)).is h x.1 x.2.1:=by
  intro l m q;induction q with
  |nil=>intro x aa;exact nomatch aa
  |@cons p q ps fQ aK t ih=>
   intro x aa;rcases bN.mp aa with e|aa
   ·subst e;exact dr ok (by rw[<-aK.1];exact aK.2.1)
   ·exact ih x aa
 exact all r x aa
def PT (ok:eD P w H h)(e:H a=some (.e7 aw)):aw.length<=sizeLine/\(a==sysModules)=false/\
  ∃xs,KT H aw xs/\h.DictOfH (tupleKind (dT P w)) a xs:=qn ok (.inl e)
end
def dV (H:aP)(a:Addr)(y:V)(r:Option V):Prop:=(∃aw k,mA H a (.cT aw)/\y=c0 k/\r=b4 aw k)\/∃aw k b,mA H a (.e7 aw)/\y=.ref b/\H b=some (.tup (k.map c0))/\r=b4 aw k
def jP (H:aP)(a:Addr)(y v:V)(J:aP):Prop:=
 (∃aw k,H a=some (.cT aw)/\y=c0 k/\aw.length<sizeLine/\J=upd H a (.cT (putK aw k v)))\/
 ∃aw k b,H a=some (.e7 aw)/\y=.ref b/\H b=some (.tup (k.map c0))/\aw.length<sizeLine/\J=upd H a (.e7 (putK aw k v))
def dV.k {k:Key}(e:H a=some (.cT aw)):dV H a (c0 k) (b4 aw k):=.inl ⟨aw,k,.inl e,z,z⟩
def dV.t {k:List Key}(e:H a=some (.e7 aw))(di:H b=some (.tup (k.map c0))):dV H a (.ref b) (b4 aw k):=.inr ⟨aw,k,b,.inl e,z,di,z⟩
def jP.k {k:Key}(e:H a=some (.cT aw))(ah:aw.length<sizeLine):jP H a (c0 k) v (upd H a (.cT (putK aw k v))):=.inl ⟨aw,k,e,z,ah,z⟩
def jP.t {k:List Key}(e:H a=some (.e7 aw))(di:H b=some (.tup (k.map c0)))(ah:aw.length<sizeLine):
  jP H a (.ref b) v (upd H a (.e7 (putK aw k v))):=.inr ⟨aw,k,b,e,z,di,ah,z⟩
section
variable{X:bE}{ac:List (Addr×Obj)}{L:St}{H:aP}{s:Shared}{a:Addr}{y v:V}{u r:Value}{o:Option V}{A:Around}{E:Value->Shared->Prop}
def Inv.big (I:Inv X ac L H s):sysModules<⇑s:=by have h:=(I.mod.glob.keeps I.jD).lt;exact oU ⇑0 h
def YT (a1:A.units+1<cLine)(I:Inv X ac L H s)(g:dV H a y (some v))(bo:RelV y u)(h:∀w' aV,Inv X ac L H aV->RelV v w'->Q w' aV):
  wpAny (model X.prog X.w) A (getItem (.ref a) u) Q E s:=by
 rcases g with⟨aw,k,e,dQ,l⟩|⟨aw,k,b,e,dQ,di,l⟩
 ·subst dQ;obtain⟨B,hd,vs,dj,cS⟩:=qm I.bi e;obtain⟨w',hw,hc⟩:=gC.some_of (v:=v) (o:=valueAt vs k) (by rw[l];exact dj.val k);exact wpAny_getItem_of (k2 bo) cS.mapOf hw (h w' _ (I.tok _) hc)
 ·subst dQ;cases (show u=Value.ref b from bo);obtain⟨B,hd,xs,dj,cS⟩:=qn I.bi e;obtain⟨w',hw,hc⟩:=gC.some_of (v:=v) (o:=(atKey xs k).map (·.2)) (by rw[l];exact dj.val k);obtain⟨_,ar,iv⟩:=lv.mp hw;refine wpAny_getItem_heap (rm a1) (dr I.bi di) cS ar ?_;rw[iv];exact h w' _ (I.tok _) hc
def YU (a1:A.units+1<cLine)(I:Inv X ac L H s)(g:dV H a y o)(bo:RelV y u)(h:∀aV,Inv X ac L H aV->Q (.bool o.isSome) aV):
  wpAny (model X.prog X.w) A (compareOp .In u (.ref a)) Q E s:=by
 rcases g with⟨aw,k,e,dQ,l⟩|⟨aw,k,b,e,dQ,di,l⟩
 ·subst dQ;obtain⟨B,hd,_,dj,cS⟩:=qm I.bi e;refine wpAny_in_of (k2 bo) hd cS.mapOf ?_;rw[<-(dj.val k).ui,<-l];exact h _ (I.tok _)
 ·subst dQ;cases (show u=Value.ref b from bo);obtain⟨B,hd,_,dj,cS⟩:=qn I.bi e;refine wpAny_in_heap (rm a1) (dr I.bi di) hd cS ?_;have q:=(dj.val k).ui;rw[pZ] at q;rw[<-q,<-l];exact h _ (I.tok _)
def YV (a1:A.units+1<cLine)(I:Inv X ac L H s)(g:dV H a y o)(bo:RelV y u)(h:∀aV,Inv X ac L H aV->Q (.bool (!o.isSome)) aV):
  wpAny (model X.prog X.w) A (compareOp .NotIn u (.ref a)) Q E s:=by
 rcases g with⟨aw,k,e,dQ,l⟩|⟨aw,k,b,e,dQ,di,l⟩
 ·subst dQ;obtain⟨B,hd,_,dj,cS⟩:=qm I.bi e;refine wpAny_notIn_of (k2 bo) hd cS.mapOf ?_;rw[<-(dj.val k).ui,<-l];exact h _ (I.tok _)
 ·subst dQ;cases (show u=Value.ref b from bo);obtain⟨B,hd,_,dj,cS⟩:=qn I.bi e;refine wpAny_notIn_heap (rm a1) (dr I.bi di) hd cS ?_;have q:=(dj.val k).ui;rw[pZ] at q;rw[<-q,<-l];exact h _ (I.tok _)
def xA (I:Inv X ac L H s)(ke:wY (H a))(au:Heap.SameBut a s.heap h')(a3:∃q,h'.get? a=some q)(new:e8 X.prog X.w (upd H a ob) h' a ob):
  Inv X ac L (upd H a ob) {s with heap:=h',toks:=t'}:=
 I.write (x:=a) (e:=a) ke (.inl z) (λ b q Y B=>(au.2 b Y).trans B) a3 new
def Fh (B:aw.length<=sizeLine)(hd:(a==sysModules)=false)(dj:e6 aw vs)(cS:h'.DictOf (dT P w) a vs):
  e8 P w J h' a (.cT aw):=⟨B,hd,vs,dj,cS⟩
def YW (a1:A.units+1<cLine)(I:Inv X ac L H s)(g:jP H a y v J)(bo:RelV y u)(cv:RelV v r)(h:∀aV,Inv X ac L J aV->Q () aV):
  wpAny (model X.prog X.w) A (setItem (.ref a) u r) Q E s:=by
 rcases g with⟨aw,k,e,dQ,l,r1⟩|⟨aw,k,b,e,dQ,di,l,r1⟩
 ·subst dQ r1;obtain⟨B,hd,vs,dj,cS⟩:=AB I.bi e;have hz:vs.length<=sizeLine:=by rw[<-dj.length];exact B
  have ah:(putK aw k v).length<=sizeLine:=by have:=uh aw k v;omega
  refine wpAny_setItem_pairs (hsz:=hz) (k2 bo) cS λ h' lP au=>h _ ?_;have a3:∃q,h'.get? a=some q:=let ⟨q,_,_,aK,_⟩:=lP;⟨q,aK⟩;exact xA I (by rw[e];exact True.intro) au a3 (Fh ah hd (dj.put k cv) lP)
 ·subst dQ r1;cases (show u=Value.ref b from bo);obtain⟨B,hd,xs,dj,cS⟩:=PT I.bi e;have hz:xs.length<=sizeLine:=by rw[<-tF dj];exact B
  have ah:(putK aw k v).length<=sizeLine:=by have:=uh aw k v;omega
  refine wpAny_setItem_heap (hsz:=hz) (rm a1) (dr I.bi di) cS λ h' lP au=>h _ ?_;obtain⟨q,ae,ep,aK,G,an,aU,_,bY⟩:=lP;refine xA I (by rw[e];exact True.intro) au ⟨q,aK⟩ ⟨ah,hd,_,(dj.put k di cv).keeps λ _ _ mW=>?_,q,ae,ep,aK,G,an,aU,bY⟩;rw[dv (cw mW e (λ B=>nomatch B))];exact mW
end
def Fi (i:Expr):Prop:=∀eM lI,subscripted i false eM lI=operate [eM,lI] (getItem eM lI)
def PU {T id:String}
  (ah:typeLookup (.type T) "__getitem__"=pure (some (.builtin id))) (au:Fi t9)
  (h:⇑5 (eval value env) (λ o dA=>⇑5 (eval t9 env) (λ i ir=>ir.TypeIs o T/\⇑5 (getItem o i) Q E ir) E dA) E s):
  ⇑5 (eval (.Subscript value t9 pos) env) Q E s:=by
 refine Subscript_ (hu h (λ o dA Au=>hu Au (λ i ir xx=>?_) λ _ _ x=>x) λ _ _ x=>x);obtain⟨aM,xx⟩:=xx;unfold subscriptTail;refine aL ?_;rw[getitemInPython_of_ne aM.not_modules];refine aL (wpAny_specialOf aM ah ?_);have cY:⇑5 (subscripted t9 false o i) (λ r uc=>⇑5 (letTemporaryGo value o r >>= λ _=>pure r) Q E uc) E ir:=by rw[au o i];exact wpAny_operating (hu xx (λ r uc Av=>aL (wpAny_letTemporaryGo (bq Av))) λ _ _ x=>x)
 first
  |exact bq (aL cY)
  |exact aL (bq (aL cY))
  |exact aL cY
def YX (I:Inv X ac L H s)(g:dV H a y o):s.TypeIs (.ref a) "dict":=by
 rcases g with⟨aw,k,e,_,_⟩|⟨aw,k,b,e,_,_,_⟩
 ·obtain⟨_,_,_,_,cS⟩:=qm I.bi e;exact cS.typeIs
 ·obtain⟨_,_,_,_,cS⟩:=qn I.bi e;exact cS.typeIs
inductive PVj(Q:d7)(x y:V)(aE:aP):Prop|mk a v:x=.ref a->dV aE a y (some v)->Q v aE->PVj Q x y aE
def PV (cR ty:TE):TE:=λ L H Q=>cR L H λ x H1=>ty L H1 (PVj Q x)
inductive YYj(Q:d7)(y x:V)(aE:aP):Prop|mk a o:x=.ref a->dV aE a y o->Q (.bg o.isSome) aE->YYj Q y x aE
def YY (ty cR:TE):TE:=λ L H Q=>ty L H λ y H1=>cR L H1 (YYj Q y)
inductive YZj(Q:d7)(y x:V)(aE:aP):Prop|mk a o:x=.ref a->dV aE a y o->Q (.bg (!o.isSome)) aE->YZj Q y x aE
def YZ (ty cR:TE):TE:=λ L H Q=>ty L H λ y H1=>cR L H1 (YZj Q y)
inductive Y0j(af:Ends)(L:St)(v x:V)(y:V)(bj:aP):Prop|mk a b1:x=.ref a->jP bj a y v b1->af.a7 L b1->Y0j af L v x y bj
def Y0 (cR ty iu:TE):g6:=λ af L H=>iu L H λ v H1=>cR L H1 λ x aE=>ty L aE (Y0j af L v x)
section
variable{X:bE}{o i e value:Expr}{pos lE rT:Pos}{cR ty iu:TE}
def Fj (a1:X.A.units+1<cLine)(aT:a9 X o cR)(aj:a9 X i ty)(au:Fi i):a9 X (.Subscript o i pos) (PV cR ty):=by intro ac s L H _ I h;refine PU Nu.lookup au (bC (aT s L H _ I h) λ u al ⟨_,H1,a4,bt,q1⟩=>bC (aj al L H1 _ a4 q1) λ _ _ ⟨_,aE,b8,bo,a,v,ex,g,bb⟩=>?_);subst ex;obtain rfl:u=Value.ref a:=bt;exact⟨YX b8 g,YT a1 b8 g bo λ _ _ dM hc=>⟨v,aE,dM,hc,bb⟩⟩
def Y1 (a1:X.A.units+1<cLine)(aj:a9 X i ty)(aT:a9 X o cR):tS X .In i o (YY ty cR):=by intro ac s L H _ I h;refine bC (aj s L H _ I h) λ _ al ⟨_,H1,a4,bo,q1⟩=>bC (aT al L H1 _ a4 q1) λ u _ ⟨_,aE,b8,bt,a,eM,ex,g,bb⟩=>?_;subst ex;obtain rfl:u=Value.ref a:=bt;exact YU a1 b8 g bo λ _ dM=>⟨.bg eM.isSome,aE,dM,z,bb⟩
def Y2 (a1:X.A.units+1<cLine)(aj:a9 X i ty)(aT:a9 X o cR):tS X .NotIn i o (YZ ty cR):=by intro ac s L H _ I h;refine bC (aj s L H _ I h) λ _ al ⟨_,H1,a4,bo,q1⟩=>bC (aT al L H1 _ a4 q1) λ u _ ⟨_,aE,b8,bt,a,eM,ex,g,bb⟩=>?_;subst ex;obtain rfl:u=Value.ref a:=bt;exact YV a1 b8 g bo λ _ dM=>⟨.bg (!eM.isSome),aE,dM,z,bb⟩
def Fk (a1:X.A.units+1<cLine)(aT:a9 X o cR)(aj:a9 X i ty)(ba:a9 X value iu)(au:swapsWith value (some (.Subscript o i lE)) pos.line X.env=pure false):
  kh X (.Assign [.Subscript o i lE] value pos) (Y0 cR ty iu):=by
 intro ac s L H _ I h;refine wpAny_Assign_Subscript (bC (ba s L H _ I h) λ _ al ⟨_,H1,a4,cv,q1⟩=>bC (aT al L H1 _ a4 q1) λ u aq ⟨_,aE,b8,bt,bb⟩=>bC (aj aq L aE _ b8 bb) λ _ _ ⟨_,_,dM,bo,a,b1,ex,g,eF⟩=>?_) au;subst ex;obtain rfl:u=Value.ref a:=bt;exact YW a1 dM g bo cv λ _ jb=>⟨L,b1,jb,eF⟩
end
def PW (h:Heap)(Y:sysModules<h.objs.size):e8 P w H (h.push {cls:=.type "dict",data:=.dict #[]}) h.objs.size (.cT []):=⟨cQ _,pX.mpr (i7 (er Y)),[],.nil,Heap.DictOf.new h⟩
def Y3 (h:Heap)(Y:sysModules<h.objs.size):e8 P w H (h.push {cls:=.type "dict",data:=.dict #[]}) h.objs.size (.e7 []):=⟨cQ _,pX.mpr (i7 (er Y)),[],.nil,_,#[],0,eU _ z,⟨z,z,z⟩,z,z,wL⟩
def Y4:TE:=λ _ H Q=>∀p,H p=none->Q (.ref p) (upd H p (.cT []))
def Y5:TE:=λ _ H Q=>∀p,H p=none->Q (.ref p) (upd H p (.e7 []))
section
variable{X:bE}{pos:Pos}
def xB:a9 X (.Dict [] [] pos) Y4:=λ _ s _ _ _ I h=>wpAny_Dict_empty ⟨.ref ⇑s,_,I.laid (a:=⇑s) (o:=.cT []) (t':=s.toks) (λ _ _ q=>dq _ q) (bG _) (PW s.heap I.big),z,h _ (I.bi.fresh (bG _))⟩
def PX:a9 X (.Dict [] [] pos) Y5:=λ _ s _ _ _ I h=>wpAny_Dict_empty ⟨.ref ⇑s,_,I.laid (a:=⇑s) (o:=.e7 []) (t':=s.toks) (λ _ _ q=>dq _ q) (bG _) (Y3 s.heap I.big),z,h _ (I.bi.fresh (bG _))⟩
end
def Fl:List (TE×TE)->St->aP->(List (V×V)->aP->Prop)->Prop
 |[],_,H,Q=>Q [] H
 |(tk,iu)::r,L,H,Q=>tk L H λ x H1=>iu L H1 λ y aE=>Fl r L aE λ ps bj=>Q ((x,y)::ps) bj
abbrev PY:List (V×V)->List (Value×Value)->Prop:=Paired λ p q=>RelV p.1 q.1/\RelV p.2 q.2
def AC (X:bE)(pos:Pos)(r2:List (Option Expr))(AD:List Expr)(r3:List (TE×TE)):Prop:=∀⦃ac⦄ s L H Q,Inv X ac L H s->Fl r3 L H Q->⇑4 (evalPairs (pairTrees r2 AD X.env pos)) (λ vs aV=>∃ps J,Inv X ac L J aV/\PY ps vs/\Q ps J) X.dG s
def Y6:AC X pos [] [] []:=λ _ _ _ H _ I h=>pairTrees_nil_walk ⟨[],H,I,.nil,h⟩
def Fm (ax:a9 X k tk)(ba:a9 X v iu)(ab:AC X pos ks vs r3):
  AC X pos (some k::ks) (v::vs) ((tk,iu)::r3):=λ ac s L H _ I h=>
 pairTrees_cons_walk (bC (ax s L H _ I h) λ _ al ⟨x,H1,a4,bt,q1⟩=>bC (ba al L H1 _ a4 q1) λ _ aq ⟨y,aE,b8,bo,bb⟩=>bC (ab aq L aE _ b8 bb) λ _ _ ⟨ps,bj,dM,dj,eF⟩=>⟨(x,y)::ps,bj,dM,.cons ⟨bt,bo⟩ dj,eF⟩)
def h0 (aw more:List (Key×V)):List (Key×V):=more.foldl (λ aY ct=>putK aY ct.1 ct.2) aw
def e6.merge:∀{more:List (Key×V)}{dB:List (Key×Value)}{aw:List (Key×V)}{vs:List (Key×Value)},e6 more dB->e6 aw vs->e6 (h0 aw more) (merged vs dB):=by
 intro more dB aw vs r;unfold e6 at r;induction r generalizing aw vs with
 |nil=>intro q;exact q
 |@cons p q ps fQ h t ih=>
  intro Fn;have e:e6 (putK aw p.1 p.2) (stored vs q.1 q.2):=by have:=Fn.put p.1 h.2;rw[<-h.1];exact this
  exact ih e
theorem Fo:∀(more aw:List (Key×V)),(h0 aw more).length<=aw.length+more.length
 |[],aw=>by show aw.length<=aw.length+0;omega
 |p::r,aw=>by have D:=Fo r (putK aw p.1 p.2);have G:=uh aw p.1 p.2;show(h0 (putK aw p.1 p.2) r).length<=_;rw[cJ];omega
theorem PZ {P:Program}{w:World}:∀{aw:List (Key×V)}{ws:List (Value×Value)},PY (aw.map λ ct=>(c0 ct.1,ct.2)) ws->∃dB,Carries (dT P w) ws dB/\e6 aw dB
 |[],_,r=>by rw[dc] at r;cases r;exact⟨[],True.intro,.nil⟩
 |p::aw,_,r=>by
  rw[bU] at r;cases r with
  |@cons a b as bs h t=>obtain⟨dB,c,q⟩:=PZ (P:=P) (w:=w) t;obtain⟨_,uj⟩:=b;exact⟨(p.1,uj)::dB,⟨k2 h.1,z,c⟩,.cons ⟨z,h.2⟩ q⟩
def Y7 (r3:List (TE×TE)):TE:=λ L H Q=>∀p,H p=none->Fl r3 L (upd H p (.cT [])) λ ps aE=>aE p=some (.cT [])/\∃aw:List (Key×V),ps=aw.map (λ ct=>(c0 ct.1,ct.2))/\aw.length<=15/\Q (.ref p) (upd aE p (.cT (h0 [] aw)))
def Y8 (h:AC X pos r2 AD r3)(jQ:r2.all (·.isSome)=true)(ah:r2.length=AD.length)(aX:r2≠[])
  (Y9:r2.length<=15):a9 X (.Dict r2 AD pos) (Y7 r3):=by
 intro ac s L _ _ I q;have aB:=I.bi.fresh (bG ⇑s);have a4:=I.laid (a:=⇑s) (o:=.cT []) (h':=s.heap.push {cls:=.type "dict",data:=.dict #[]}) (t':=s.toks) (λ _ _ q=>dq _ q) (bG _) (PW s.heap I.big);refine wpAny_Dict_walk (knd:=dT X.prog X.w) jQ ah aX Y9 (bC (h _ L _ _ a4 (q _ aB)) λ _ _ ⟨_,_,b8,dj,e,aw,ep,_,bb⟩=>?_);subst ep;obtain⟨dB,c,Y_⟩:=PZ (P:=X.prog) (w:=X.w) dj;obtain⟨_,hd,_,Fn,cS⟩:=AB b8.bi e;cases Fn;refine⟨dB,c,cS,λ h' lP au=>⟨.ref ⇑s,_,?_,z,bb⟩⟩;have hz:(h0 [] aw).length<=sizeLine:=by have D:=Fo aw [];rw[p4] at D;rw[zW];omega
 have a3:∃q,h'.get? ⇑s=some q:=let ⟨q,_,_,aK,_⟩:=lP;⟨q,aK⟩;exact xA b8 (by rw[e];exact True.intro) au a3 (Fh hz hd (Y_.merge .nil) lP)
structure M2 (X:bE)(o:Expr)(m:Str)(d1:Pos)(e f:Expr)(gh:Pos):Prop where
 base:attributeBase o m X.env (eval o X.env)=eval o X.env
 jR:((backTo gh (starEach [e,f] X.env)).all (λ x=> !x.1)&&(backToKw gh (keywordEach [] X.env)).all (λ x=>x.1.isSome)
  &&decide (([e,f]:List Expr).length+([]:List Keyword).length+(if ([]:List Keyword).isEmpty then 0 else 1)<30))=true
 line:(d1.endLine==gh.line)=true
 trees:backTo gh (starEach [e,f] X.env)=[(false,eval e X.env),(false,eval f X.env)]
def Fp (H:aP)(a:Addr):Prop:=(∃aw,mA H a (.cT aw))\/∃aw,mA H a (.e7 aw)
def P0 (I:Inv X ac L H s)(d:Fp H a):
  s.TypeIs (.ref a) "dict"/\(∀b,Value.ref a=.ref b->∃ob,s.heap.get? b=some ob/\ob.dict=none)/\(a==sysModules)=false:=by
 rcases d with⟨aw,e⟩|⟨aw,e⟩
 ·obtain⟨_,hd,_,_,cS⟩:=qm I.bi e;refine⟨cS.typeIs,λ b q=>?_,hd⟩;cases q;obtain⟨ob,_,_,D,G,_⟩:=cS;exact⟨ob,D,G.2.1⟩
 ·obtain⟨_,hd,_,_,cS⟩:=qn I.bi e;refine⟨cS.typeIs,λ b q=>?_,hd⟩;cases q;obtain⟨ob,_,_,D,G,_⟩:=cS;exact⟨ob,D,G.2.1⟩
section
variable{X:bE}{ac:List (Addr×Obj)}{L:St}{H:aP}{s:Shared}{a:Addr}{y d:V}{u r:Value}{o:Option V}{A:Around}{E:Value->Shared->Prop}
def Y' (a1:A.units+1<cLine)(I:Inv X ac L H s)(g:dV H a y o)(bo:RelV y u)(AA:RelV d r)(h:∀w' aV,Inv X ac L H aV->RelV (o.getD d) w'->Q w' aV):
  wpAny (model X.prog X.w) A (call (.builtin "dict.get") [.ref a,u,r]) Q E s:=by
 rcases g with⟨aw,k,e,dQ,l⟩|⟨aw,k,b,e,dQ,di,l⟩
 ·subst dQ;obtain⟨B,hd,_,dj,cS⟩:=qm I.bi e;refine rv wz cS.typeIs DH (DC _ _ _) (Od (dT X.prog X.w) a (k2 bo) hd r) ⟨_,cS.mapOf,h _ _ (I.tok _) ?_⟩;rw[l];exact(dj.val k).getD AA
 ·subst dQ;cases (show u=Value.ref b from bo);obtain⟨B,hd,xs,dj,cS⟩:=qn I.bi e;refine rv wz cS.typeIs DH (DC _ _ _) (meetsH_dict_get_default (tupleKind (dT X.prog X.w)) a b hd r) ⟨rm a1,k,xs,dr I.bi di,cS,h _ _ (I.tok _) ?_⟩;rw[l];exact(dj.val k).getD AA
end
def P1 (cR ty bu:TE):TE:=λ L H Q=>cR L H λ x H1=>∃a,x=.ref a/\Fp H1 a/\ty L H1 λ y aE=>bu L aE λ B bj=>∃o,dV bj a y o/\Q (o.getD B) bj
section
variable{X:bE}{o e f:Expr}{d1 gh:Pos}{cR ty bu:TE}
def qo (a1:X.A.units+1<cLine)(aT:a9 X o cR)(a3:a9 X e ty)(aS:a9 X f bu)(m:M2 X o "get" d1 e f gh):a9 X (.Call (.Attribute o "get" d1) [e,f] [] gh) (P1 cR ty bu):=by
 intro ac s L H _ I h;refine D4 m.base m.jR m.line DD wz NL (bC (aT s L H _ I h) λ u al ⟨_,H1,a4,bt,a,ex,d,q1⟩=>?_);subst ex;obtain rfl:u=Value.ref a:=bt;obtain⟨fR,cG,_⟩:=P0 a4 d;refine⟨fR,cG,?_⟩;rw[m.trees];refine to z (wD (nE (bC (a3 al L H1 _ a4 q1) λ _ aq ⟨_,aE,b8,bo,bb⟩=>nE (bC (aS aq L aE _ b8 bb) λ _ _ ⟨_,bj,dM,nW,_,g,eF⟩=>p2 ?_))))
 exact Y' a1 dM g bo nW λ _ _ jb hc=>⟨_,bj,jb,hc,eF⟩
end
def Za:typeLookup (.type "list") "keys"=pure none:=am_miss_of_fast (by first|decide+kernel|rfl)
def P2:entryFor table "dict.update.loop"=some Builtin.«dict.update.loop»:=entryFor_of_tree (by kernel_rfl)
def xC:plainId "dict.update.loop"=true:=by decide+kernel
section
variable{prog:Program}{w:World}{A:Around}{E:Value->Shared->Prop}
def Zb (aa:s.heap.get? a=some o)(ak:o.cls=.type "list")(r4:o.data=.seq xs k)(hd:o.dict=none)(lN:A.handled=none)
  (h:∀h' tk,(∀b ob,s.heap.get? b=some ob->h'.get? b=some ob)->Q none {s with heap:=h',toks:=tk}):⇑5 (getAttr? (.ref a) "keys") Q E s:=by
 obtain⟨c,ak1,P4,sl⟩:=o;simp only at ak r4 hd;subst ak r4 hd;obtain⟨ar,g,d,tk,os⟩:=s;have aM:∀AE,(⟨ar,g,d,AE,os⟩:Shared).TypeIs (.ref a) "list":=λ _=>⟨_,aa,z⟩;have Zc:=Za;have Zd:(["__module__","__name__","__qualname__","__doc__","__annotations__"]:List Str).contains "keys"=false:=by decide+kernel
 have hsz:("keys":Str).length+100<=sizeLine:=by first|size_fits|decide+kernel
 have e':=sub_AttributeError;have eh:=Dz.lookup;have fl:=Dz.bind (.ref a);have gH:=am_list_getattr_none;unfold getAttr? getAttrBy? getAttrBy
 repeat (any_goals (first|assumption|exact aM _|((with_reducible show wpAny _ _ (call (Value.builtin "list.__getattribute__") _ _) _ _ _);refine p8 Dz (aM _) am_entry_list_getattribute (PySem.F.args_list_getattribute_2 _ _) (meets_getattribute_miss_list a xs k sl "keys" _ Zc Zd hsz) ⟨aa,lN,λ h' AE e uk=>?_⟩)|wp_step))
 obtain⟨t',lD,a3⟩:=uk.there;unfold getattributeRaised
 repeat (any_goals (first|assumption|wp_step))
 all_goals first|exact h _ _ uk.keeps|(dsimp only;repeat (any_goals (first|assumption|exact h _ _ uk.keeps|wp_step)))
theorem P5 {R:Result->Shared->Prop}{S I l:Addr}{items:Array Value}{res:Value}(b3:A.handled=none)(P6:l≠I)(AF:S≠I)(P7:S≠l):
  ∀(rest:List (Key×Value))(i:Nat)(aY:List (Key×Value))(ua:Int)(t:Tok)(s:Shared),items.size=i+rest.length->aY.length+rest.length<=sizeLine->
   (∀(j:Nat)(q:Key×Value),rest[j]?=some q->∃(b:Addr)(u:Value),items[i+j]?=some (.ref b)/\b≠S/\b≠I/\IsTup s.heap b #[u,q.2]/\gR q.1 u=true)->
   s.heap.IsListIter I l i->s.heap.IsList l items->s.heap.DictOf (dT prog w) S aY->
   (∀h' tk,h'.DictOf (dT prog w) S (merged aY rest)->(∀b o,b≠S->b≠I->s.heap.get? b=some o->h'.get? b=some o)->R (.ok (.ret res)) {s with heap:=h',toks:=tk})->
   codeAny (model prog w) A (.builtin "dict.update.loop" ⟨[.ref S,.ref I,.int ua t,res],[]⟩) R s
 |[],i,aY,ua,t,s,hsz,AG,a_,nX,ah,hm,kn=>by refine ly P2 ?_;rw[nB xC _];refine aL (Ol (A:=A.in1) b3 nX ah (by first|exact zA (wS hsz)|(simp at hsz;simp;omega)) λ h' a3=>?_);refine aL (bq (bq ?_));exact kn h' s.toks (hm.extBut a3 AF) λ b o _ Y e=>a3 b o Y e
 |q::rest,i,aY,ua,t,s,hsz,AG,a_,nX,ah,hm,kn=>by
  obtain⟨b,u,Y,_,Ze,AH,ax⟩:=a_ 0 q z;rw[cJ] at hsz AG;refine ly P2 ?_;rw[nB xC _];refine aL (Ob (x:=.ref b) nX ah ↥Y λ _ Zf o9=>?_);have iT:=AH.extBut o9.extBut Ze;have iU:=ah.extBut o9.extBut P6;have Fq:=hm.extBut o9.extBut AF;obtain⟨o,aT,ak,_,hd⟩:=id iT;refine aL (hs ?_);refine aL (p6 ?_);unfold Builtin.Dict.pairItems;refine aL (zV (T:="tuple") ⟨o,aT,ak⟩ ?_);rw[aA (by first|decide|rfl|simp)];refine aL (tE aT hd (bq ?_));refine hs (wpAny_dictSet_pairs (knd:=dT prog w) (k:=q.1) ax Fq (λ _ Fs rR=>?_) ⇑1);refine bq ⟨lz xC _,P5 (items:=items) b3 P6 AF P7 rest (i+1) (stored aY q.1 q.2) (ua+1) 0 _ (show items.size=i+1+rest.length by omega) ?_ (λ j eL e=>?_) ?_ ?_ Fs λ h' tk kV k=>?_⟩
  ·have B:=stored_length_le aY q.1 q.2;omega
  ·obtain⟨AI,lD,qp,P8,P9,Zg,jM⟩:=a_ (j+1) eL ↥e;refine⟨AI,lD,?_,P8,P9,(Zg.extBut o9.extBut P9).extBut rR.extBut P8,jM⟩;rw[show i+1+j=i+(j+1) by omega];exact qp
  ·exact Zf.at λ fz e=>rR.extBut I fz (i7 AF) e
  ·exact iU.extBut rR.extBut (i7 P7)
  ·exact kn h' tk kV λ c i9 an aU e=>k c i9 an aU (rR.extBut c i9 an (o9.extBut c i9 aU e))
def Zh (b3:A.handled=none)(ah:s.heap.get? l=some ol)(ak:ol.cls=.type "list")(hd:ol.dict=none)(r4:ol.data=.seq items n)(hsz:items.size=prs.length)(AG:prs.length<=sizeLine)(a_:∀(j:Nat)(q:Key×Value),prs[j]?=some q->∃b u,items[j]?=some (.ref b)/\IsTup s.heap b #[u,q.2]/\gR q.1 u=true)(h:∀h' tk,h'.DictOf (dT prog w) ⇑s (merged [] prs)->(∀b o,s.heap.get? b=some o->h'.get? b=some o)->Q (.ref ⇑s) {s with heap:=h',toks:=tk}):⇑5 (call (.type "dict") [.ref l]) Q E s:=by
 refine callType_codes (Q₁:=λ obj dA=>obj=.ref ⇑s/\dA={s with heap:=s.heap.push {cls:=.type "dict",data:=.dict #[]}}) PySem.F.kt_called_dict (PySem.F.kt_typeCall_dict_1 _) PySem.F.entry_dict_init (kt_code_dict_new _ ⟨z,z⟩) ?_;rintro obj dA ⟨rfl,rfl⟩;have r5:(s.heap.push {cls:=.type "dict",data:=.dict #[]}).DictOf (dT prog w) ⇑s []:=Heap.DictOf.new s.heap;have xD:∀b o,s.heap.get? b=some o->(s.heap.push {cls:=.type "dict",data:=.dict #[]}).get? b=some o:=λ b o e=>dq _ e;refine⟨r5.typeIs,PySem.F.args_dict_init_2 _ _,?_⟩;unfold Builtin.«dict.__init__»;refine aL ?_;unfold Builtin.Dict.selfAndRest;refine aL (Oo r5.typeIs ?_);refine bq ?_;show wpAny _ _ (Builtin.Dict.updateFrom "dict.__init__" ⇑s (.ref l) [] .none) _ _ _;unfold Builtin.Dict.updateFrom;refine aL (zV (T:="list") ⟨ol,xD _ _ ah,ak⟩ ?_);rw[aA (by first|decide|rfl|simp)];refine aL (Zb (xD _ _ ah) ak r4 hd b3 λ D Zi iw=>?_);rw[aA (show(none:Option Value).isNone=true from rfl)];refine aL (lA ?_);have iU:D.IsList l items:=⟨ol,iw _ _ (xD _ _ ah),ak,n,r4⟩;have AJ:⇑s<D.objs.size:=by have e:(s.heap.push {cls:=.type "dict",data:=.dict #[]}).get? ⇑s=some {cls:=.type "dict",data:=.dict #[]}:=eU _ z;exact c2 (iw _ _ e)
 refine aL (p1 iU ?_);have cU:∀b o,D.get? b=some o->(D.push {cls:=.type "list_iterator",data:=.fields #[.ref l,.int 0 0]}).get? b=some o:=λ b o e=>dq _ e;have c6:=c2 ah;have key:=P5 (prog:=prog) (w:=w) (A:=A.in1) (R:=wants (λ r ir=>r=.none/\Q (.ref ⇑s) ir) E) (S:=⇑s) (I:=D.objs.size) (l:=l) (items:=items) (res:=Value.none) b3
  (er (oU c6 AJ)) (er AJ) (p7 c6) prs 0 [] 0 0
  {s with heap:=D.push {cls:=.type "list_iterator",data:=.fields #[.ref l,.int 0 0]},toks:=Zi} (by rw[hsz,zR]) (by rw[p4,zR];exact AG)
  (λ j q e=>by obtain⟨b,u,ap,ao,bz⟩:=a_ j q e;have Y:=ao.lt;exact⟨b,u,by rw[zR];exact ap,er Y,er (oU Y AJ),ao.keeps λ _ o B=>cU _ _ (iw _ _ (xD _ _ B)),bz⟩)
  ⟨_,eU _ z,z,z⟩ (iU.at λ o e=>cU _ _ e) ((r5.at λ o e=>iw _ _ e).at λ o e=>cU _ _ e)
  (λ h' tk kV k=>⟨z,h h' tk kV λ b o e=>k b o (er (c2 e)) (er (oU (c2 e) AJ)) (cU _ _ (iw _ _ (xD _ _ e)))⟩)
 first
  |exact bq ⟨lz xC _,key⟩
  |exact aL (bq (bq ⟨lz xC _,key⟩))
end
section
variable{X:bE}
theorem P_ {ac:List (Addr×Obj)}{L:St}{H:aP}{s:Shared}(I:Inv X ac L H s):∀{ps:List Addr}{aw:List (Key×V)},Paired (λ p ct=>dh X.K H p [c0 ct.1,ct.2]) ps aw->
  ∃prs:List (Key×Value),e6 aw prs/\prs.length=ps.length/\∀(j:Nat)(q:Key×Value),prs[j]?=some q->∃(b:Addr)(u:Value),ps[j]?=some b/\IsTup s.heap b #[u,q.2]/\gR q.1 u=true
 |_,_,.nil=>⟨[],.nil,z,λ j q e=>by simp at e⟩
 |_,_,.cons (a:=p) (b:=ct) h t=>by
  obtain⟨prs,r,ah,ar⟩:=P_ I t;obtain⟨_,cv,a_,_⟩:=I.tuple h;obtain⟨u,y,nY,gS,bo⟩:=vals2 cv;subst nY;refine⟨(ct.1,y)::prs,.cons ⟨z,bo⟩ r,by rw[cJ,cJ,ah],λ j q e=>?_⟩;cases j with
  |zero=>have bW:=eV e;subst bW;exact⟨p,u,z,a_,k2 (P:=X.prog) (w:=X.w) gS⟩
  |succ j=>obtain⟨b,lD,ap,ao,bz⟩:=ar j q ↥e;exact⟨b,lD,↥ap,ao,bz⟩
theorem P':∀{ps:List Addr}{us:List Value},Vals (ps.map V.ref) us->us=ps.map Value.ref
 |[],us,r=>by rw[dc] at r;cases r;rfl
 |p::ps,us,r=>by
  rw[bU] at r;cases r with
  |cons h t=>cases h;rw[bU,<-P' t]
def Zj (Zk:X.calm=true):jF X (.type "dict") (λ xs H Q=>∃a ps aw,xs=[.ref a]/\aG X.K H a (ps.map V.ref)/\Paired (λ p ct=>dh X.K H p [c0 ct.1,ct.2]) ps aw/\∀p,H p=none->Q (.ref p) (upd H p (.cT (h0 [] aw)))):=by
 intro _ s _ H xs _ Q I r q;obtain⟨a,ps,aw,ex,aK,ar,q⟩:=q;subst ex;obtain⟨u,o_,bt⟩:=vals1 r;subst o_;cases bt;obtain⟨_,cv,pl,hz⟩:=I.list aK;have nY:=P' cv;subst nY;rw[be] at hz;obtain⟨prs,dj,ah,Zl⟩:=P_ I ar;obtain⟨_,_,aT,ak,hd,r4⟩:=pl;refine Zh (prs:=prs) (I.ok.hd Zk) aT ak hd r4 (by simp[ah]) (by rw[ah];exact hz) (λ j eL e=>?_) λ _ tk kV k=>?_
 ·obtain⟨b,u,ap,ao,bz⟩:=Zl j eL e;exact⟨b,u,by simp[ap],ao,bz⟩
 ·have hm:=pX.mpr (p7 I.big);have bR:(h0 [] aw).length<=sizeLine:=by refine cK (Fo aw []) ?_;rw[p4,zR,dj.length,ah];exact hz
  exact⟨.ref ⇑s,upd H ⇑s (.cT (h0 [] aw)),I.laid (t':=tk) k (bG _) (show e8 X.prog X.w _ _ _ (.cT (h0 [] aw)) from⟨bR,hm,merged [] prs,e6.merge dj .nil,kV⟩),z,q _ (I.bi.fresh (bG _))⟩
end
section
variable{X:bE}{ac:List (Addr×Obj)}{L:St}{H:aP}{s:Shared}{h':Heap}
def Inv.Zm {ch:List Addr}(I:Inv X ac L H s)(k:∀b o,b∉ch->s.heap.get? b=some o->h'.get? b=some o)(aS:∀b∈ch,lJ X ac H b):Inv X ac L H {s with heap:=h',toks:=t'}:=by
 have p9:∀b u,H b=some u->b∉ch:=λ b u e B=>by have q:=(aS b B).1;rw[q] at e;cases e
 refine I.step (g':=s.gens) (d':=s.drawn) (ch:=ch) (λ b Y=>⟨(aS b Y).2.2.2.1,(aS b Y).2.1,(aS b Y).2.2.2.2.1,(aS b Y).2.2.2.2.2⟩) (λ b o _ _ ak e _=>k b o ak e) (λ b o _ _ ak e _=>⟨o.slots,k b o ak e⟩)
  (λ _ _ _ _ n=>n) (λ b o ak e=>⟨o,k b o ak e⟩) (λ _ _ e=>e) (λ _ _ _ e=>e) (λ b _ e=>⟨#[],by rw[e];simp⟩) (λ _ hm=>?_) (λ b u e=>?_) I.bare
 ·obtain⟨o,ae,ep,aT,r⟩:=hm;exact⟨o,ae,ep,k _ o (λ B=>(aS _ B).2.1 z) aT,r⟩
 ·refine(I.bi b u e).rA (λ c v ak q=>k c v ?_ q) (λ _ q=>q) λ _ _ q=>q;rcases ak with B|B
  ·rw[B];exact p9 b u e
  ·exact p9 c _ B
def Inv.Qa {ch:List Addr}{T:Addr}(I:Inv X ac L H s)(k:∀b o,b∉ch->s.heap.get? b=some o->h'.get? b=some o)(aS:∀b∈ch,lJ X ac H b)(aM:⇑s<=T)
  (new:e8 X.prog X.w (upd H T ob) h' T ob):Inv X ac L (upd H T ob) {s with heap:=h',toks:=t'}:=by
 have aB:=I.bi.fresh aM;have p9:∀b u,H b=some u->b∉ch:=λ b u e B=>by have q:=(aS b B).1;rw[q] at e;cases e
 refine I.step (g':=s.gens) (d':=s.drawn) (ch:=ch) (λ b Y=>⟨(aS b Y).2.2.2.1,(aS b Y).2.1,(aS b Y).2.2.2.2.1,(aS b Y).2.2.2.2.2⟩) (λ b o _ _ ak e _=>k b o ak e) (λ b o _ _ ak e _=>⟨o.slots,k b o ak e⟩)
  (λ b o _ e n=>?_) (λ b o ak e=>⟨o,k b o ak e⟩) (λ b xs e=>?_) (λ b o u e=>?_) (λ b _ e=>⟨#[],?_⟩) (λ _ hm=>?_) (λ b u e=>?_) I.bare
 ·rw[dv (er (hp (c2 e) aM))];exact n
 ·rw[dv (cy e aB)];exact e
 ·rw[dv (cy e aB)];exact e
 ·rw[dv (cy e aB),e];simp
 ·obtain⟨o,ae,ep,aT,r⟩:=hm;exact⟨o,ae,ep,k _ o (λ B=>(aS _ B).2.1 z) aT,r⟩
 ·by_cases Y:b=T
  ·subst Y;rw[aI] at e;cases e;exact new
  ·rw[dv Y] at e;refine(I.bi b u e).rA (λ c v ak q=>k c v ?_ q) (λ c q=>by rw[dv (cy q aB)];exact q) λ c xs q=>by rw[dv (cy q aB)];exact q
   rcases ak with B|B;·rw[B];exact p9 b u e
   ·exact p9 c _ B
end
section
variable{X:bE}
def Qb (I:Inv X ac L H s)(o)
  (T:Turn X.prog X.w X.K dZ eg [⇑s] ⇑s g9) (st:g9 0 (s.heap.push o)) (q:R eg H):OT X ac L dZ R (.ref ⇑s) {s with heap:=s.heap.push o,toks:=tk}:=by
 refine⟨⇑s,[⇑s],g9,eg,H,z,I.kept λ b _ e=>dq _ e,T,st,λ b Y=>?_,q⟩;have e:b=⇑s:=by simpa using Y
 subst e;exact I.tX (bG _) (I.bi.fresh (bG _))
end
def xE (x:Str):qa:=⟨λ i _=>i<x.cps.size,λ i H v J=>J=H/\∃c,x.cps[i]?=some c/\v=.str ⟨#[c]⟩,λ i _=>x.cps.size<=i⟩
def Qc {P:Program}{w:World}{K:Frag}{dZ:Expr}(bP:Addr)(x:Str)(t:Tok)(ty:String)(qg:ty="str_ascii_iterator"\/ty="str_iterator"):
  Turn P w K dZ (xE x) [bP] bP (λ i h=>h.IsStrIter bP ty x t i) where
 mem:=by simp
 obj:=λ i h st b Y=>by
  have e:b=bP:=by simpa using Y
  subst e;obtain⟨o,e,c,d⟩:=st;exact⟨o,e,λ v B=>by rw[d] at B;cases B⟩
 keep:=λ i h h' st k=>let ⟨o,aT,r⟩:=st;⟨o,k bP ⇑2 o aT,r⟩
 item:=by
  intro X dH hw fA ak i ac s L H E I aS st bL;subst dH hw fA;obtain⟨gG,e',eZ,eh,fl,gH⟩:=aS bP ⇑2;have W:Walks X.prog X.w X.A bP [bP] [bP] x.cps.size (SignAt x) (λ i h=>h.IsStrIter bP ty x t i):=by
   rcases qg with e|e;·rw[e];exact Walks.strAscii (I.ok.hd ak) bP x t
   ·rw[e];exact Walks.strWide (I.ok.hd ak) bP x t
  have dK:["enumerate","zip","dict_itemiterator","dict_reverseitemiterator","odict_iterator","itertools.zip_longest","itertools.pairwise"].contains ty=false:=by
   rcases qg with e|e;·rw[e];decide
   ·rw[e];decide
  refine W.item i s _ _ bL st λ v h' tk ba it aQ=>?_;obtain⟨c,u,Zn,rfl⟩:=ba;have a4:Inv X ac L H {s with heap:=h',toks:=tk}:=I.turned (λ b o Y e=>aQ b o ↥Y e) gG e' eh fl gH;obtain⟨_,e,Zo,cS⟩:=id it;exact⟨_,z,EA (s:={s with heap:=h',toks:=tk}) e Zo cS dK ⟨.str ⟨#[c]⟩,H,a4,⟨u,z⟩,⟨z,c,Zn,z⟩,it,λ b Y=>(aS b Y).1⟩⟩
 done:=by
  intro X dH hw fA ak i ac s L H E I aS st bL;subst dH hw fA;obtain⟨gG,e',eZ,eh,fl,gH⟩:=aS bP ⇑2;have aa:=zA bL;rcases qg with e|e
  ·rw[e] at st;exact wpAny_pyNext_ascii_end (I.ok.hd ak) st aa λ h' di=>⟨z,I.turned (t':=s.toks) (λ b o Y e=>di b o Y e) gG e' eh fl gH⟩
  ·rw[e] at st;exact wpAny_pyNext_wide_end (I.ok.hd ak) st aa λ h' di=>⟨z,I.turned (t':=s.toks) (λ b o Y e=>di b o Y e) gG e' eh fl gH⟩
 self:=λ A i s _ E st h=>by
  rcases qg with e|e;·rw[e] at st;exact wpAny_pyIter_striter_ascii st h
  ·rw[e] at st;exact wpAny_pyIter_striter_wide st h
inductive Zpj(R:qa->aP->Prop)(v:V)(H1:aP):Prop|mk x:v=.str x->R (xE x) H1->Zpj R v H1
def Zp (cc:TE):TI:=λ L H R=>cc L H (Zpj R)
def Ft (a3:a9 X e cc):nQ X dZ e (Zp cc):=by
 intro ac s L H _ I h;refine bC (a3 s L H _ I h) λ _ al ⟨_,_,a4,b0,x,ex,q⟩=>?_;subst ex;obtain⟨t,rfl⟩:=b0;cases az:x.cps.all (· <128);·exact wpAny_pyIter_wide az (Qb (tk:=al.toks) a4 _ (Qc _ x t "str_iterator" (.inr z)) ⟨_,eU _ z,z,z⟩ q)
 ·exact wpAny_pyIter_ascii az (Qb (tk:=al.toks) a4 _ (Qc _ x t "str_ascii_iterator" (.inl z)) ⟨_,eU _ z,z,z⟩ q)
def Zq (h:gR k u=true):RelV (c0 k) u:=by
 rcases kd h with⟨i,t,rfl,rfl⟩|⟨x,t,rfl,rfl⟩;·exact⟨t,z⟩
 ·exact⟨t,z⟩
def Zr:bootBuiltins "zip"=some (.type "zip"):=by decide+kernel
def xF (K:Frag)(a b:Addr):qa:=⟨λ i H=>∃xs ys x y,aG K H a xs/\aG K H b ys/\xs[i]?=some x/\ys[i]?=some y,λ i H v J=>∃T x y,v=.ref T/\H T=none/\J=upd H T (.tup [x,y])/\(∀xs,aG K H a xs->xs[i]?=some x)/\∀ys,aG K H b ys->ys[i]?=some y,λ i H=>∃xs ys:List V,aG K H a xs/\aG K H b ys/\(xs.length<=i\/ys.length<=i)⟩
def Zs {P:Program}{w:World}{K:Frag}{xG:List Expr}{aQ:Nat}{rT:Pos}{a b B TI jJ fa dm:Addr}(af:ZipApart B TI jJ fa dm a b):
  Turn P w K (.Tuple xG aQ rT) (xF K a b) [B,TI,jJ,fa,dm] B (λ i h=>IsZip h B TI jJ .none/\IsPair h TI (.ref fa) (.ref dm)/\(∃x y,IsPair h jJ x y)/\h.IsListIter fa a i/\h.IsListIter dm b i) where
 mem:=by simp
 obj:=λ i h st c ak=>by
  obtain⟨hz,mX,⟨x,y,nZ⟩,⟨xH,ap,_,kj⟩,⟨o',ao,_,pa⟩⟩:=st;have bW:c=B\/c=TI\/c=jJ\/c=fa\/c=dm:=by simpa using ak
  rcases bW with q|q|q|q|q;·rw[q];exact⟨_,hz,λ v q=>nomatch q⟩
  ·rw[q];exact⟨_,mX,λ v q=>nomatch q⟩
  ·rw[q];exact⟨_,nZ,λ v q=>nomatch q⟩
  ·rw[q];exact⟨xH,ap,λ v q=>by rw[kj] at q;cases q⟩
  ·rw[q];exact⟨o',ao,λ v q=>by rw[pa] at q;cases q⟩
 keep:=λ i h h' st k=>by obtain⟨hz,mX,⟨x,y,nZ⟩,D,G⟩:=st;exact⟨k B ⇑2 _ hz,k TI ⇑2 _ mX,⟨x,y,k jJ ⇑2 _ nZ⟩,D.at λ o q=>k fa ⇑2 o q,G.at λ o q=>k dm ⇑2 o q⟩
 item:=by
  intro X dH hw fA ak i ac s L H E I aS st bL;subst dH hw fA;obtain⟨hz,mX,⟨Zt,Zu,nZ⟩,D,G⟩:=st;obtain⟨xs,ys,x,y,ul,um,aa,aC⟩:=bL;obtain⟨aR,cv,p,_⟩:=I.list ul;obtain⟨nV,Fu,fP,_⟩:=I.list um;obtain⟨u,a1,gS⟩:=cv.get aa;obtain⟨qq,Fv,Fw⟩:=Fu.get aC;have gK:=c2 hz;refine wpAny_pyNext_zip_item af hz mX nZ D G p.isList fP.isList (x:=u) (y:=qq) ↥a1 ↥Fv λ h' w8 Zv uo Zw aM _ ax=>?_;refine⟨_,z,wpAny_letOwnedTupleGo_zip (s:={s with heap:=h'}) w8 λ xI Zx d8=>?_⟩;have Fx:=(d8.2 _ (p7 gK)).trans aM;have new:e8 X.prog X.w (upd H ⇑s (.tup [x,y])) xI ⇑s (.tup [x,y]):=⟨by show 2<=sizeLine;decide,[u,qq],.cons gS (.cons Fw .nil),⟨_,Fx,z,_,z⟩⟩
  have a4:Inv X ac L (upd H ⇑s (.tup [x,y])) {s with heap:=xI}:=I.Qa (t':=s.toks) (ch:=[B,TI,jJ,fa,dm]) (λ c o Y q=>(d8.2 c (λ eL=>Y (by simp[eL]))).trans (ax c o (λ eL=>Y (by simp[eL])) (λ eL=>Y (by simp[eL])) (λ eL=>Y (by simp[eL])) (λ eL=>Y (by simp[eL])) q)) aS (bG _) new
  refine⟨.ref ⇑s,_,a4,z,⟨_,x,y,z,I.bi.fresh (bG _),z,λ l ah=>by rw[I.z' ah ul];exact aa,λ l ah=>by rw[I.z' ah um];exact aC⟩,⟨Zx,?_,⟨u,qq,?_⟩,?_,?_⟩,λ c AK=>?_⟩;·exact(d8.2 _ af.TIz).trans (ax _ _ af.TIz af.TITO af.TIi1 af.TIi2 mX)
  ·exact(d8.2 _ af.TOz).trans Zv
  ·exact uo.at λ o q=>(d8.2 _ af.i1z).trans q
  ·exact Zw.at λ o q=>(d8.2 _ af.i2z).trans q
  ·have c6:c<⇑s:=by
    have bW:c=B\/c=TI\/c=jJ\/c=fa\/c=dm:=by simpa using AK
    rcases bW with q|q|q|q|q;·rw[q];exact gK
    ·rw[q];exact c2 mX
    ·rw[q];exact c2 nZ
    ·rw[q];obtain⟨_,ap,_⟩:=D;exact c2 ap
    ·rw[q];obtain⟨_,ao,_⟩:=G;exact c2 ao
   rw[dv (er c6)];exact(aS c AK).1
 done:=by
  intro X dH hw fA ak i ac s L H E I aS st bL;subst dH hw fA;obtain⟨hz,mX,⟨Zt,Zu,nZ⟩,D,G⟩:=st;obtain⟨xs,ys,ul,um,Zy⟩:=bL;obtain⟨aR,cv,p,_⟩:=I.list ul;obtain⟨nV,Fu,fP,_⟩:=I.list um;have n0:=cv.length;have pb:=Fu.length;have a3:aR.toArray[i]?=none\/nV.toArray[i]?=none:=by
   rcases Zy with q|q;·exact .inl (by simp;omega)
   ·exact .inr (by simp;omega)
  exact wpAny_pyNext_zip_end (I.ok.hd ak) af hz mX nZ D G p.isList fP.isList a3 λ h' ax=>⟨z,I.Zm (t':=s.toks) (ch:=[B,TI,jJ,fa,dm]) (λ c o Y q=>ax c o (λ eL=>Y (by simp[eL])) (λ eL=>Y (by simp[eL])) (λ eL=>Y (by simp[eL])) (λ eL=>Y (by simp[eL])) q) aS⟩
 self:=λ _ i s _ E st h=>wpAny_pyIter_zip st.1 h
inductive Zzj(K:Frag)(R:qa->aP->Prop)(vs:List V)(H1:aP):Prop|mk a b xs ys:vs=[.ref a,.ref b]->aG K H1 a xs->aG K H1 b ys->R (xF K a b) H1->Zzj K R vs H1
def Zz (K:Frag)(bx:eX):TI:=λ L H R=>bx L H (Zzj K R)
def ZA (bL:gr X "zip")(hm:X.am "zip"=none)(az:gf X [e,ao] bx)
  (au:starEach [e,ao] X.env=(false,eval e X.env)::starEach [ao] X.env:=by rfl) (d2:(backTo pos (starEach [ao] X.env)).any (·.1)=false:=by rfl):
  nQ X (.Tuple xG aQ rT) (.Call (.Name "zip" p) [e,ao] [] pos) (Zz X.K bx):=by
 intro ac s L H _ I h;refine Call_ (rH I bL hm Zr (DA (bC (az pos ac s L H _ I h) λ _ al ⟨_,H1,a4,b0,q1⟩=>?_) au d2));obtain⟨a,b,_,_,ex,ul,um,q⟩:=q1;subst ex;cases b0 with
 |cons r rJ=>
  cases rJ with
  |cons eE rJ=>
   cases rJ;cases r;cases eE;obtain⟨_,_,dR,_⟩:=a4.list ul;obtain⟨_,_,fP,_⟩:=a4.list um;have k3:=dR.lt;have pc:=fP.lt;refine call_zip_2 dR.isList fP.isList λ _ hz mX nZ D G _ ax=>wpAny_pyIter_zip hz ?_;have b8:=a4.kept (t':=al.toks) ax;refine⟨⇑al+4,[⇑al+4,⇑al+2,⇑al+3,⇑al,⇑al+1],_,_,H1,z,b8,Zs (PySem.W.ktu_apart ⇑al a b k3 pc),⟨hz,mX,⟨_,_,nZ⟩,D,G⟩,λ c AK=>?_,q⟩;have bW:c=⇑al+4\/c=⇑al+2\/c=⇑al+3\/c=⇑al\/c=⇑al+1:=by simpa using AK
   have lQ:⇑al<=c:=by
    rcases bW with B|B|B|B|B;·rw[B];exact wH _ _
    ·rw[B];exact wH _ _
    ·rw[B];exact wH _ _
    ·rw[B];exact bG _
    ·rw[B];exact wH _ _
   exact a4.tX lQ (a4.bi.fresh lQ)
end ef
section
namespace fS
open PySem PySem.Builtin PySem.Builtin.Str PySem.StrLaws
abbrev bl (x:Str):List Nat:=x.cps.toList
def r6 (x):x.length=(bl x).length:=by simp[bl,Str.length]
def xJ (h:bl x=bl y):x=y:=Str.ext' (Oe.mp h)
def Fy (x y):bl (x++y)=bl x++bl y:=by show(x++y).cps.toList=_;rw[Str.cps_append,Array.toList_append]
theorem Qd:∀{l m:List Str},l.map bl=m.map bl->l=m
 |[],[],_=>rfl
 |[],_::_,h=>by simp at h
 |_::_,[],h=>by simp at h
 |x::l,y::m,h=>by
  rw[bU,bU] at h;injection h with D G
  rw[xJ D,Qd G]
def ZB (s):bl (Str.ofString s)=s.toList.map Char.toNat:=PyProof.Rows.signs_ofString s
def pre (S l:List Nat):Bool:=l.take S.length==S
def gw (S:List Nat):Nat->List Nat->List Nat->List (List Nat)
 |_,aY,[]=>[aY]
 |0,aY,c::r=>if pre S (c::r)=true then aY::gw S (S.length - 1) [] r else gw S 0 (aY++[c]) r
 |k+1,aY,_::r=>gw S k aY r
def AL (S)(k)(aY):gw S k aY []=[aY]:=by cases k<;>rfl
def Qe (h:pre S (c::r)=true):gw S 0 aY (c::r)=aY::gw S (S.length - 1) [] r:=by show(if pre S (c::r)=true then aY::gw S (S.length - 1) [] r else gw S 0 (aY++[c]) r)=_;rw[aA h]
def Qg (h:pre S (c::r)=false):gw S 0 aY (c::r)=gw S 0 (aY++[c]) r:=by show(if pre S (c::r)=true then aY::gw S (S.length - 1) [] r else gw S 0 (aY++[c]) r)=_;rw[ay (by rw[h];exact eo)]
theorem Qh (S):∀k aY l,gw S k aY l=gw S 0 aY (l.drop k)
 |0,_,_=>by rw[wM]
 |k+1,aY,[]=>by rw[List.drop_nil,AL,AL]
 |k+1,aY,c::r=>by exact Qh S k aY r
def ZC (a8:S≠[]):pre S []=false:=by
 cases S with
 |nil=>exact absurd z a8
 |cons s S=>rfl
def ZD {dC:List Nat}(h:a<dC.length):∃c,dC.drop a=c::dC.drop (a+1):=⟨dC[a],ny h⟩
theorem Fz (S dC:List Nat):∀(m a:Nat)(aY:List Nat),a+m<=dC.length->(∀k,a<=k->k<a+m->pre S (dC.drop k)=false)->
  gw S 0 aY (dC.drop a)=gw S 0 (aY++(dC.drop a).take m) (dC.drop (a+m))
 |0,a,aY,_,_=>by rw[wN,hr,Nat.add_zero]
 |m+1,a,aY,h,aB=>by
  have c6:a<dC.length:=by omega
  obtain⟨c,e⟩:=ZD c6;have aX:=aB a (bG _) ⇑1;have ih:=Fz S dC m (a+1) (aY++[c]) ⇑1 (λ k _ _=>aB k ⇑1 ⇑1);have ao:a+1+m=a+(m+1):=by omega
  rw[ao] at ih;rw[e] at aX;rw[e,Qg aX,ih,NU,iL]<;>rfl
def ZE (dC:List Nat)(a b):(dC.drop a).drop b=dC.drop (a+b):=by
 first
  |rw[D5]
  |rw[D5,zS]
def ZF {S dC:List Nat}(a8:S≠[])(h:pre S (dC.drop c)=true):gw S 0 aY (dC.drop c)=aY::gw S 0 [] (dC.drop (c+S.length)):=by
 rw[<-ZE];cases e:dC.drop c with
 |nil=>rw[e,ZC a8] at h;cases h
 |cons d r=>
  rw[e] at h;rw[Qe h,Qh];cases S with
  |nil=>exact absurd z a8
  |cons s S=>rfl
def Qi (aC:bl y≠[])(i):At x y x.length i↔pre (bl y) ((bl x).drop i)=true:=by
 have aa:=r6 x;have ah:=r6 y;constructor
 ·intro h;have G:=h.2;rw[subAt_eq,ah] at G;exact G
 ·intro h;have e:=nJ h;have ap:=congrArg List.length e;rw[c5,lx] at ap;have ao:0<(bl y).length:=pY.mpr aC;refine⟨⇑1,?_⟩;rw[subAt_eq,ah];exact h
def Qj (aC:bl y≠[])(h:¬At x y x.length i):pre (bl y) ((bl x).drop i)=false:=by
 cases ar:pre (bl y) ((bl x).drop i) with
 |false=>rfl
 |true=>exact absurd ((Qi aC i).mpr ar) h
def ZG (aC:bl y≠[]):1<=y.length:=by have ao:=pY.mpr aC;rw[r6 y];exact ao
def Qk (x)(i j):bl (strSub x i j)=((bl x).drop i).take (j - i):=strSub_toList x i j
def ZH (x)(i):bl (strSub x i x.length)=(bl x).drop i:=by rw[Qk,r6 x];exact rh (by rw[lx]<;>omega)
theorem Ql {x y:Str}(aC:bl y≠[]):∀(Qm:List Nat)(a f:Nat),a<=(bl x).length->ChainG x y x.length a Qm f->(∀k,f<=k->¬At x y x.length k)->
  (partsFrom x y.length a Qm).map bl=gw (bl y) 0 [] ((bl x).drop a)
 |[],a,f,az,h,aB=>by
  have e:=h;subst e;show[bl (strSub x f x.length)]=_;have run:=Fz (bl y) (bl x) ((bl x).length - f) f [] ⇑1 (λ k D _=>Qj aC (aB k D));have ao:f+((bl x).length - f)=(bl x).length:=by omega
  rw[ao,List.drop_length,AL,wI,rh (by rw[lx]<;>omega)] at run;rw[run,ZH]
 |c::r,a,f,az,h,aB=>by
  obtain⟨D,G,an,aU⟩:=h;have ak:c+y.length<=x.length:=G.1;have aa:=r6 x;have ah:=r6 y;have ih:=Ql aC r (c+y.length) f ⇑1 aU aB;show bl (strSub x a c)::(partsFrom x y.length (c+y.length) r).map bl=_;have run:=Fz (bl y) (bl x) (c - a) a [] ⇑1 (λ k f3 _=>Qj aC (an k f3 ⇑1));have ao:a+(c - a)=c:=by omega
  rw[ao,wI,ZF aC ((Qi aC c).mp G)] at run;rw[run,ih,Qk,ah]
def ZI (x y)(aC:bl y≠[])(ax:¬Builtin.Str.strKind x<Builtin.Str.strKind y):(Txt.split x y).map bl=gw (bl y) 0 [] (bl x):=by
 obtain⟨f,g,aB⟩:=occ_tight x y (ZG aC);have key:=Ql aC _ 0 f (cQ _) g aB;rw[wM] at key;have Qn:occurrences x y 0 x.length (x.length+1)=[]->[x].map bl=gw (bl y) 0 [] (bl x):=λ aT=>by rw[aT] at key;rw[<-key];show[bl x]=[bl (strSub x 0 x.length)];rw[sub_whole]
 unfold Txt.split;by_cases D:(decide (x.length<y.length)||decide (Builtin.Str.strKind x<Builtin.Str.strKind y))=true
 ·rw[aA D];have c6:x.length<y.length:=by
   simp only[jB,fG] at D;rcases D with h|h
   ·exact h
   ·exact absurd h ax
  refine Qn ?_;cases aT:occurrences x y 0 x.length (x.length+1) with
  |nil=>rfl
  |cons c r=>rw[aT] at g;have ak:c+y.length<=x.length:=g.2.1.1;omega
 ·rw[ay D];by_cases G:(occurrences x y 0 x.length (x.length+1)).isEmpty=true
  ·rw[aA G];exact Qn (DW.mp G)
  ·rw[ay G,partsBetween_eq];exact key
def ZJ (h:y.cps.all (· <256)=true):¬Builtin.Str.strKind x<Builtin.Str.strKind y:=by
 have e:Builtin.Str.strKind y=1:=by unfold PySem.Builtin.Str.strKind;rw[aA h]
 rw[e];unfold PySem.Builtin.Str.strKind;split;·omega
 ·split<;>omega
def r7 (S:List Nat):List (List Nat)->List Nat
 |[]=>[]
 |[p]=>p
 |p::q::r=>p++(S++r7 S (q::r))
theorem FA (y):∀parts:List Str,bl (Str.join y parts)=r7 (bl y) (parts.map bl)
 |[]=>rfl
 |[_]=>rfl
 |x::B::r=>by show bl (x++y++Str.join y (B::r))=bl x++(bl y++r7 (bl y) ((B::r).map bl));rw[Fy,Fy,FA y (B::r),iL]
def join_eq (y)(parts):Txt.join y parts=Str.join y parts:=glued_eq_join y parts
end fS
end
namespace ef
open PySem PySem.Spec PyProof.Rows
theorem Qo:∀l:List (Str×Tok),Vals ((l.map (·.1)).map V.str) (strValues l)
 |[]=>.nil
 |p::r=>.cons ⟨p.2,z⟩ (Qo r)
theorem FC:∀{ys:List Str}{us:List Value},Vals (ys.map V.str) us->StrsAre us ys
 |[],_,.nil=>.nil
 |y::ys,_,.cons r t=>by obtain⟨k,rfl⟩:=r;exact .cons y k (FC t)
def FD (ys:List Str):aP->d7->Prop:=λ H Q=>∀p,H p=none->Q (.ref p) (upd H p (.lst (ys.map V.str)))
section
variable{X:bE}{ac:List (Addr×Obj)}{L:St}{H:aP}{s:Shared}{Q:d7}
def FE (I:Inv X ac L H s)(e:l.map (·.1)=ys)(hz:ys.length<=sizeLine)(h:FD ys H Q):
  g7 X ac L Q (.ref ⇑s) {s with toks:=k,heap:=s.heap.push {cls:=.type "list",data:=.seq (strValues l).toArray}}:=by
 have ar:=I.bi.fresh (bG _);refine⟨.ref ⇑s,upd H ⇑s (.lst (ys.map V.str)),I.laid (λ _ _ q=>dq _ q) (bG _) ⟨by rw[be];exact hz,strValues l,_,?_,eU _ z⟩,z,h _ ar⟩;rw[<-e];exact Qo l
end
section
variable{X:bE}
def ZK:lL X "str.split" (λ x xs H Q=>∃a b,x=.str a/\xs=[.str b]/\(b.length==0)=false/\a.length+2<=sizeLine/\FD (Txt.split a b) H Q):=by
 intro _ s _ H x xs _ _ Q I bt dB h;obtain⟨a,b,rfl,rfl,Y,hz,h⟩:=h;obtain⟨t,rfl⟩:=bt;cases dB with
 |cons b0 dB=>
  cases dB;obtain⟨u,rfl⟩:=b0;have ah:=cK (PyProof.Rows.split_le a b) hz;have aB:(Builtin.Str.partsBetween a (Builtin.Str.occurrences a b 0 a.length (a.length+1)) b.length).length<=sizeLine:=by have ap:=StrLaws.occ_length_le a b 0 a.length (a.length+1);rw[length_partsBetween];omega
  cases D:(decide (a.length<b.length)||decide (Builtin.Str.strKind a<Builtin.Str.strKind b))
  ·cases aS:(Builtin.Str.occurrences a b 0 a.length (a.length+1)).isEmpty
   ·refine p8 zM (ry _ _ _) D6 (D0 _ _) (meets_str_split_sep a b t u D Y aS ⇑1 aB) ?_;rw[strsFrom_eq];exact FE (ys:=Txt.split a b) I ((numbered_texts _ _).trans ((ay (DN D)).trans (ay (DN aS))).symm) ah h
   ·refine p8 zM (ry _ _ _) D6 (D0 _ _) (meets_str_split_not_found a b t u D Y aS) ?_;exact FE (l:=[(a,t)]) (ys:=Txt.split a b) (k:=s.toks) I ((ay (DN D)).trans (aA aS)).symm ah h
  ·refine p8 zM (ry _ _ _) D6 (D0 _ _) (meets_str_split_cannot_occur a b t u D) ?_;exact FE (l:=[(a,t)]) (ys:=Txt.split a b) (k:=s.toks) I (aA D).symm ah h
def ZL:lL X "str.join" (λ x xs H Q=>∃a p,∃ys:List Str,x=.str a/\xs=[.ref p]/\(aG X.K H p (ys.map V.str)\/dh X.K H p (ys.map V.str))/\
  (ys.map (·.length)).sum+ys.length * a.length<=16777216/\Q (.str (Txt.join a ys)) H):=by
 intro _ _ _ H x xs _ _ Q I bt dB h;obtain⟨a,p,ys,rfl,rfl,ar,hz,h⟩:=h;obtain⟨_,rfl⟩:=bt;cases dB with
 |cons b0 dB=>
  cases dB;cases b0;rcases ar with ar|ar
  ·obtain⟨aR,r,⟨o,n,aT,ak,_,hd⟩,_⟩:=I.list ar;exact PyProof.Rows.join_list (items:=aR.toArray) ⟨o,aT,ak,n,hd⟩ (by rw[NV];exact FC r) hz λ t' k=>⟨.str _,H,I.tok k,⟨t',z⟩,h⟩
  ·obtain⟨aR,r,a_,_⟩:=I.tuple ar;exact PyProof.Rows.join_tuple (items:=aR.toArray) a_ (by rw[NV];exact FC r) hz λ t' k=>⟨.str _,H,I.tok k,⟨t',z⟩,h⟩
def ZM {id:String}{C:Str->Prop}{g:Str->V}(rule:∀a t s Q,C a->(∀u k,RelV (g a) u->Q u {s with toks:=k})->⇑4 (call (.builtin id) [.str a t]) Q X.dG s):lL X id (λ x xs H Q=>∃a,x=.str a/\xs=[]/\C a/\Q (g a) H):=by intro _ s _ H x xs _ _ Q I bt dB h;obtain⟨a,rfl,rfl,ak,h⟩:=h;obtain⟨t,rfl⟩:=bt;cases dB;exact rule a t s _ ak λ u k r=>⟨g a,H,I.tok k,r,h⟩
def ZN:lL X "str.isdigit" (λ x xs H Q=>∃a,x=.str a/\xs=[]/\True/\Q (.bg (Txt.isdigit a)) H):=ZM (C:=λ _=>True) (g:=λ a=>.bg (Txt.isdigit a)) λ _ _ s _ _ h=>PySem.SC.isdigit (h _ s.toks z)
def Qp {id:String}{g:Str->Str->V}(rule:∀a b t u s Q,(∀v k,RelV (g a b) v->Q v {s with toks:=k})->⇑4 (call (.builtin id) [.str a t,.str b u]) Q X.dG s):lL X id (λ x xs H Q=>∃a b,x=.str a/\xs=[.str b]/\Q (g a b) H):=by
 intro _ s _ H x xs v _ Q I bt dB h;obtain⟨a,b,rfl,rfl,h⟩:=h;obtain⟨t,rfl⟩:=bt;cases dB with
 |cons b0 dB=>cases dB;obtain⟨u,rfl⟩:=b0;exact rule a b t u s _ λ v k r=>⟨g a b,H,I.tok k,r,h⟩
def ZO:lL X "str.startswith" (λ x xs H Q=>∃a b,x=.str a/\xs=[.str b]/\Q (.bg (Txt.startswith a b)) H):=Qp (g:=λ a b=>.bg (Txt.startswith a b)) λ _ _ _ _ s _ h=>PySem.SC.startswith (h _ s.toks z)
def ZP:lL X "str.endswith" (λ x xs H Q=>∃a b,x=.str a/\xs=[.str b]/\Q (.bg (Txt.endswith a b)) H):=Qp (g:=λ a b=>.bg (Txt.endswith a b)) λ _ _ _ _ s _ h=>PySem.SC.endswith (h _ s.toks z)
def FF:jF X (.type "int") (λ xs H Q=>∃a n,xs=[.str a]/\PySem.intText? a=some n/\a.length<=640/\Q (.int n) H):=by
 intro _ _ _ H xs _ Q I dB h;obtain⟨a,n,rfl,aB,ah,h⟩:=h;cases dB with
 |cons b0 dB=>cases dB;obtain⟨_,rfl⟩:=b0;exact PySem.W.KIN.call_text aB ah ⟨.int n,H,I.tok _,⟨_,z⟩,h⟩
end
section
variable{X:bE}{o e:Expr}{dP cc:TE}
def Qq (r:V->List V->aP->d7->Prop)(dP:TE):TE:=λ L H Q=>dP L H λ x H1=>(∃a,x=.str a)/\r x [] H1 Q
def FG (r:V->List V->aP->d7->Prop)(dP cc:TE):TE:=λ L H Q=>dP L H λ x H1=>(∃a,x=.str a)/\cc L H1 λ y aE=>r x [y] aE Q
def ZQ {id:String}(slot:Slot "str" name id)(ty:typeOf (.builtin id)=pure (.type "method_descriptor"))(rule:lL X id r)(aT:a9 X o dP)
  (mQ:attributeBase o name X.env (eval o X.env)=eval o X.env:=by rfl) (mR:(d1.endLine==pos.line)=true:=by rfl):a9 X (.Call (.Attribute o name d1) [] [] pos) (Qq r dP):=by
 intro ac s L H Q I h;refine PySem.Call_method0 mQ mR (bC (aT s L H _ I h) λ _ al ⟨_,H1,a4,b0,q1⟩=>?_);obtain⟨⟨_,rfl⟩,q1⟩:=q1;obtain⟨_,rfl⟩:=_root_.id b0;exact⟨"str",_,F.plainAttrs_str,slot,ty,ry _ _ _,(λ _ e=>nomatch e),to z (PySem.evalArgs_none (rule al L H1 _ [] _ [] Q a4 b0 .nil q1))⟩
def AM {id:String}(slot:Slot "str" name id)(ty:typeOf (.builtin id)=pure (.type "method_descriptor"))(rule:lL X id r)(aT:a9 X o dP)(a3:a9 X e cc)
  (au:starEach [e] X.env=[(false,eval e X.env)]:=by rfl) (mQ:attributeBase o name X.env (eval o X.env)=eval o X.env:=by rfl) (mR:(d1.endLine==pos.line)=true:=by rfl):
  a9 X (.Call (.Attribute o name d1) [e] [] pos) (FG r dP cc):=by
 intro ac s L H Q I h;refine PySem.Call_method1 mQ au mR (bC (aT s L H _ I h) λ _ al ⟨_,H1,a4,b0,q1⟩=>?_);obtain⟨⟨_,rfl⟩,q1⟩:=q1;obtain⟨_,rfl⟩:=_root_.id b0;refine⟨"str",_,F.plainAttrs_str,slot,ty,ry _ _ _,(λ _ e=>nomatch e),to z (wD (nE ?_))⟩;exact bC (a3 al L H1 _ a4 q1) λ u aq ⟨y,aE,b8,de,bb⟩=>p2 (rule aq L aE _ [y] _ [u] Q b8 b0 (.cons de .nil) bb)
def FH (aT:a9 X o dP)(a3:a9 X e cc)(au:starEach [e] X.env=[(false,eval e X.env)]:=by rfl)(mQ:attributeBase o "split" X.env (eval o X.env)=eval o X.env:=by rfl)(mR:(d1.endLine==pos.line)=true:=by rfl):
  a9 X (.Call (.Attribute o "split" d1) [e] [] pos) (FG (λ x xs H Q=>∃a b,x=.str a/\xs=[.str b]/\(b.length==0)=false/\a.length+2<=sizeLine/\FD (Txt.split a b) H Q) dP cc):=
 AM zM F.type_str_split ZK aT a3 au mQ mR
def Qr (aT:a9 X o dP)(a3:a9 X e cc)(au:starEach [e] X.env=[(false,eval e X.env)]:=by rfl)(mQ:attributeBase o "join" X.env (eval o X.env)=eval o X.env:=by rfl)(mR:(d1.endLine==pos.line)=true:=by rfl):
  a9 X (.Call (.Attribute o "join" d1) [e] [] pos) (FG (λ x xs H Q=>∃a p,∃ys:List Str,x=.str a/\xs=[.ref p]/\(aG X.K H p (ys.map V.str)\/dh X.K H p (ys.map V.str))/\
   (ys.map (·.length)).sum+ys.length * a.length<=16777216/\Q (.str (Txt.join a ys)) H) dP cc):=
 AM F.slot_str_join F.type_str_join ZL aT a3 au mQ mR
end
section
variable{X:bE}
def ZR:gt X (compareOp .In) (λ x y H Q=>∃c B,x=.str ⟨#[c]⟩/\y=.str B/\Q (.bg (decide (c∈B.cps.toList))) H):=by intro _ _ _ H x y _ _ Q I bt bo h;obtain⟨c,B,rfl,rfl,q⟩:=h;obtain⟨_,rfl⟩:=bt;obtain⟨_,rfl⟩:=bo;exact PyProof.Rows.in_str (fm I q (PySem.StrLaws.found_one B c).symm)
end
def IsPart.raw (p:IsPart v o):∃l:Option (Int×Tok),v=partValue l/\l.map (·.1)=o:=by
 cases p with
 |none=>exact⟨none,z,z⟩
 |int i t=>exact⟨some (i,t),z,z⟩
def xK (n d:Nat):Option Int->Int
 |none=>(d:Int)
 |some i=>max 0 (min (if i<0 then i+(n:Int) else i) (n:Int))
def Qs (n d)(o):xK n d o=((c8.dn n d o:Nat):Int):=by
 cases o with
 |none=>rfl
 |some v=>
  show max (0:Int) (min (if v<0 then v+(n:Int) else v) (n:Int))=(((if v<0 then(v+(n:Int)).toNat else min v.toNat n):Nat):Int);by_cases ba:v<0
  ·simp only[aA ba];omega
  ·simp only[ay ba];omega
def ZS (a b)(n):Builtin.Str.strSliceIndices a b 1 n=sliceRange (xK n 0 a) (xK n n b) 1:=by
 have D:((1:Int)>0)=True:=by simp
 cases a<;>cases b<;>first
  |rfl
  |(simp only[Builtin.Str.strSliceIndices,xK,D,iq];rfl)
  |simp[Builtin.Str.strSliceIndices,xK]
def ZT (a b)(n):Builtin.Str.strSliceIndices a b 1 n=(List.range (c8.dn n n b - c8.dn n 0 a)).map (λ k=>c8.dn n 0 a+k):=by
 rw[ZS,Qs,Qs];generalize c8.dn n 0 a=p;generalize c8.dn n n b=q;simp only[sliceRange,show((1:Int)>0)=True from by simp,iq];by_cases c6:(p:Int)<q
 ·have bz:(((q:Int) - p+1 - 1) / 1).toNat=q - p:=by first|omega|(simp;done)|(simp;omega)
  simp only[c6,iq,bz];refine mu λ k _=>?_;omega
 ·have:q - p=0:=by omega
  simp[c6,this]
def lR (B:Str)(lo aj:Option Int):Str:=⟨((B.cps.toList.drop (c8.dn B.length 0 lo)).take (c8.dn B.length B.length aj - c8.dn B.length 0 lo)).toArray⟩
def Qt (B)(lo aj):PySem.StrLaws.sliceText B lo aj=lR B lo aj:=by
 have D:c8.dn B.length 0 lo<=B.length:=c8.Pk _ _ (cQ _) _;have G:c8.dn B.length B.length aj<=B.length:=c8.Pk _ _ (bG _) _;have ar:c8.dn B.length 0 lo<=max (c8.dn B.length 0 lo) (c8.dn B.length B.length aj):=Nat.le_max_left _ _;have aK:=Nat.max_le.mpr ⟨D,G⟩;have hd:max (c8.dn B.length 0 lo) (c8.dn B.length B.length aj) - c8.dn B.length 0 lo=c8.dn B.length B.length aj - c8.dn B.length 0 lo:=by omega
 have e:Builtin.Str.strSliceIndices lo aj 1 B.length=
   Builtin.Str.strSliceIndices (some ((c8.dn B.length 0 lo:Nat):Int)) (some ((max (c8.dn B.length 0 lo) (c8.dn B.length B.length aj):Nat):Int)) 1 B.length:=by
  rw[PySem.StrLaws.strSliceIndices_plain ar aK,hd,ZT]
 have ao:PySem.StrLaws.sliceText B lo aj=
   PySem.StrLaws.sliceText B (some ((c8.dn B.length 0 lo:Nat):Int)) (some ((max (c8.dn B.length 0 lo) (c8.dn B.length B.length aj):Nat):Int)):=by
  unfold PySem.StrLaws.sliceText;rw[e]
 rw[ao,PySem.StrLaws.sliceText_nat B ar aK,hd];rfl
def ZU (B)(lo aj):(lR B lo aj).length<=B.length:=by show(((B.cps.toList.drop (c8.dn B.length 0 lo)).take (c8.dn B.length B.length aj - c8.dn B.length 0 lo)).toArray).size<=B.cps.size;rw[fk,c5,lx,nC];omega
inductive ZV(x:V)(lo:Option Int)(aj:Option Int)(H:aP)(Q:d7):Prop|mk B:x=.str B->B.length<=sizeLine->Q (.str (lR B lo aj)) H->ZV x lo aj H Q
def Qu:ES X ZV:=by
 intro ac s L H _ _ _ _ _ _ _ Q I bt au pl xk h;obtain⟨B,rfl,hz,q⟩:=h;obtain⟨t,rfl⟩:=bt;obtain⟨os,ZW,r8,ZX⟩:=au;obtain⟨l,rfl,rfl⟩:=IsPart.raw pl;obtain⟨u,rfl,rfl⟩:=IsPart.raw xk;refine⟨"str",_,F.slot_str_getitem.lookup,ry _ _ _,?_⟩;refine wpAny_getItem_str_slice (l:=l) (u:=u) (st:=none) ⟨os,ZW,r8,ZX⟩ z ?_;have ah:(PySem.StrLaws.sliceText B (l.map (·.1)) (u.map (·.1))).length<=sizeLine:=by rw[Qt];exact cK (ZU B _ _) hz
 rw[<-Qt] at q;unfold PySem.StrLaws.sliceText at q ah;show Made.post (if ((1:Int)==1&&(Builtin.Str.strSliceIndices (l.map (·.1)) (u.map (·.1)) 1 B.length).length==B.length)=true then Made.val (.str B t)
  else Made.str ⟨((Builtin.Str.strSliceIndices (l.map (·.1)) (u.map (·.1)) 1 B.length).filterMap (B.cps[·]?)).toArray⟩) (g7 X ac L Q) s
 by_cases c:((1:Int)==1&&(Builtin.Str.strSliceIndices (l.map (·.1)) (u.map (·.1)) 1 B.length).length==B.length)=true
 ·rw[aA c] at q⊢;exact⟨.str B,H,I,⟨t,z⟩,q⟩
 ·rw[ay c] at q ah⊢;exact⟨ah,.str _,H,I.tok _,⟨_,z⟩,q⟩
abbrev KOf {K:Frag}{h:Heap}(_:K.In h):Frag:=K
def inClass (s:Stmt)(j:Nat):Stmt:=match s with
 |.ClassDef _ _ _ body _ _ _ _ _ _ _=>body.getD j (.Pass ⟨0,0,0,0⟩)
 |_=>.Pass ⟨0,0,0,0⟩
def n1 (s:Stmt):Arguments:=match s with
 |.FunctionDef _ a _ _ _ _ _ _ _ _=>a
 |_=>{posonlyargs:=[],args:=[],vararg:=none,kwonlyargs:=[],kw_defaults:=[],kwarg:=none,defaults:=[]}
def lS (s:Stmt):List Stmt:=match s with
 |.FunctionDef _ _ b _ _ _ _ _ _ _=>b
 |_=>[]
def h1 (s:Stmt):Scope:=match s with
 |.FunctionDef _ _ _ _ _ _ dz _ _ _=>dz
 |_=>{kind:=.function,names:=[],isGenerator:=false,isCoroutine:=false}
abbrev h2:rU:=λ _ _ _ _ _ _=>False
abbrev qr:mD:=λ _ _ _=>False
def mY:Passes h2 X qr:=λ _ _ _ _ _ _ _ h=>h.elim
structure pd (K:Frag)(x cL:Str)(st:Stmt)(f:Addr)(fd:FuncData):Prop where
 ex:∃(i9:Value)(e9:Option Addr)(c0 gV gW:Value)(gI:Option Addr)(dI es:Value)(t5:Array (Option Value)),
  fd=PySem.W.fnOf x cL (n1 st) (lS st) (h1 st) .none c0 gV gW gI dI es/\K.lookup f=some ⟨i9,e9,.func fd,t5⟩/\PySem.W.codeIn K dI cL=true
 et:PySem.W.keepIn K (.ref f)=true
section
variable{P:Program}{w:World}{K:Frag}{am:Str->Option Value}{base:Heap}
def pd.ok {st:Stmt}(F:pd K x cL st f fd)(S:t3 N ps (h1 st))(len:∀vs H Q E,sp vs H Q E->vs.length=ps.length)(EQ:∀dI A outer s H vs Q E,ea k (A.deeper (envOfC cL (h1 st) ⇑s f dI))->sp vs H Q E->∃t,ki (rW h2 P w K am base N cL (h1 st) f dI A outer s H E).xa (lS st) t/\t {a7:=λ _ J=>Q .b6 J,nM:=Q} (start N vs) H):fB P w K am base h2 (k+1) f fd ps sp:=by obtain⟨_,_,_,_,_,_,dI,_,_,rfl,kk,rG⟩:=F.ex;refine XO kk rG S len λ A outer s H vs Q E ab nT=>?_;obtain⟨t,h,q⟩:=EQ dI A outer s H vs Q E ab nT;exact⟨t,h.xa,q⟩
def pd.binds {st:Stmt}(F:pd K x cL st f fd)(h:∀c0 gV gW gI dI es us,us.length=ps.length->bindArgs (PySem.W.fnOf x cL (n1 st) (lS st) (h1 st) .none c0 gV gW gI dI es) ⟨us,[]⟩=pure (ps.zip us)):Binds K fd ps []:=by obtain⟨_,_,c0,gV,gW,gI,dI,es,_,rfl,_,_⟩:=F.ex;exact .all (h c0 gV gW gI dI es)
def uq {st:Stmt}{c0 gV gW dI es:Value}(l:K.lookup f=some ⟨i9,e9,.func (PySem.W.fnOf x cL (n1 st) (lS st) (h1 st) .none c0 gV gW gI dI es),t5⟩)
  (c:PySem.W.codeIn K dI cL=true) (k:PySem.W.keepIn K (.ref f)=true):pd K x cL st f (PySem.W.fnOf x cL (n1 st) (lS st) (h1 st) .none c0 gV gW gI dI es):=⟨⟨i9,e9,c0,gV,gW,gI,dI,es,t5,z,l,c⟩,k⟩
end
def Qv (ab:ea k A):A.units+1<cLine:=kR (NW (by decide:1<=64) _) ab.units
section
variable{X:bE}
def O (i)(d6:X.N[i]?=some x:=by rfl)(ba:z1 X.env.scope x:=by nofun)(hd:(x==("__debug__":Str))=false:=by decide)
  (rG:(x==("__classdict__":Str))=false:=by decide):a9 X (.Name x pos) (i_ i):=WN d6 ba hd rG
end
def c7 {A ds:Prop}(h:ds):if false=true then A else ds:=by rw[ay eo];exact h
def df {A ds:Prop}(h:A):if true=true then A else ds:=by rw[aA z];exact h
def bZ {c A ds:Prop}[Decidable c](D:c->A)(G:¬c->ds):if c then A else ds:=by
 by_cases h:c
 ·rw[aA h];exact D h
 ·rw[ay h];exact G h
def aH (H J:aP):Prop:=∀b o,H b=some o->J b=some o
def aH.refl (H):aH H H:=λ _ _ h=>h
def aH.trans (a:aH H H1)(b:aH H1 aE):aH H aE:=λ c o h=>b c o (a c o h)
def aH.free (e:aH H J)(h:J l=Option.none):H l=Option.none:=by
 cases q:H l with
 |none=>rfl
 |some o=>rw[e l o q] at h;cases h
def aH.seq {K:Frag}(e:aH H J)(h:aG K H a xs):aG K J a xs:=by
 rcases h with (h|⟨o,h⟩)|h;·exact .inl (.inl (e _ _ h))
 ·exact .inl (.inr ⟨o,e _ _ h⟩)
 ·exact .inr h
def at_of {B:Int}{j:Nat}{v:V}(e:B=(j:Int))(h:xs[j]?=some v):kY xs B=some v:=by rw[e];exact XW h
end ef
end
section
namespace ef
open PySem PySem.Spec PyProof.Rows
open PySem.W (WData Codec OpenSpec Well WellAll ReadsW ReadsAllW)
mutual
inductive hh (K:Frag)(H:aP):V->WData->Prop
 |b6:hh K H .b6 .none
 |bg (b:Bool):hh K H (.bg b) (.bool b)
 |int (i:Int):hh K H (.int i) (.int i)
 |str (x:Str):hh K H (.str x) (.str x)
 |iM (b:Array UInt8):hh K H (.iM b) (.bytes b.toList)
 |lst {a:Addr} {xs:List V} {bH:List WData}:aG K H a xs->lT K H xs bH->hh K H (.ref a) (.list bH)
 |tup {a:Addr} {xs:List V} {bH:List WData}:dh K H a xs->lT K H xs bH->hh K H (.ref a) (.tuple bH)
inductive lT (K:Frag)(H:aP):List V->List WData->Prop
 |nil:lT K H [] []
 |cons {v:V} {vs:List V} {d:WData} {bH:List WData}:hh K H v d->lT K H vs bH->lT K H (v::vs) (d::bH)
end
theorem Qw {K:Frag}:∀ns:List Int,lT K H (ns.map V.int) (ns.map WData.int)
 |[]=>.nil
 |n::r=>.cons (.int n) (Qw r)
theorem Qx {K:Frag}:∀(ns:List Int)(xs:List V),lT K H xs (ns.map WData.int)->xs=ns.map V.int
 |[],xs,h=>by cases h;rfl
 |n::r,xs,h=>by
  cases h with
  |cons D G=>cases D;rw[Qx r _ G]<;>rfl
section
variable{P:Program}{w:World}{K:Frag}{H:aP}{h:Heap}{R:PySem.W.WRecords}{cl:Str->Option Addr}
def ZY (bi:eD P w H h)(aW:K.In h)(q:aG K H a xs):∃aR o n,Vals xs aR/\h.get? a=some o/\o.cls=.type "list"/\o.data=.seq aR.toArray n:=by
 rcases q with q|⟨o,aR,n,e,ak,_,hd,_,ba⟩
 ·obtain⟨_,aR,n,ba,e⟩:=(show e8 P w H h a (.lst xs) from q.ok bi);exact⟨aR,_,n,ba,e,z,z⟩
 ·exact⟨aR.toList,o,n,ba,aW _ _ e,ak,by simp[hd]⟩
def ZZ (bi:eD P w H h)(aW:K.In h)(q:dh K H a xs):∃aR o n,Vals xs aR/\h.get? a=some o/\o.cls=.type "tuple"/\o.data=.seq aR.toArray n:=by
 rcases q with q|⟨o,aR,n,e,ak,hd,_,ba⟩
 ·obtain⟨_,aR,ba,o,e,ak,n,hd⟩:=(show e8 P w H h a (.tup xs) from q.ok bi);exact⟨aR,o,n,ba,e,ak,hd⟩
 ·exact⟨aR.toList,o,n,ba,aW _ _ e,ak,by simp[hd]⟩
mutual
theorem hh.reads (bi:eD P w H h)(aW:K.In h):∀(d:WData)(v:V)(u:Value),hh K H v d->RelV v u->∃as,ReadsW R cl h u d as
 |.none,_,_,x,r=>by cases x;cases r;exact⟨_,ReadsW.none⟩
 |.bool b,_,_,x,r=>by cases x;cases r;exact⟨_,ReadsW.bool b⟩
 |.int i,_,_,x,r=>by cases x;obtain⟨t,rfl⟩:=r;exact⟨_,ReadsW.int i t⟩
 |.str s,_,_,x,r=>by cases x;obtain⟨t,rfl⟩:=r;exact⟨_,ReadsW.str s t⟩
 |.bytes b,_,_,x,r=>by cases x;obtain⟨t,rfl⟩:=r;exact⟨_,ReadsW.bytes _ t⟩
 |.list bH,_,_,x,r=>by
  cases x with
  |lst au az=>cases r;obtain⟨aR,o,n,cv,aT,ak,hd⟩:=ZY bi aW au;obtain⟨as,ab⟩:=hh.readsAll bi aW bH _ aR az cv;exact⟨_,ReadsW.list aT ak hd ab⟩
 |.tuple bH,_,_,x,r=>by
  cases x with
  |tup au az=>cases r;obtain⟨aR,o,n,cv,aT,ak,hd⟩:=ZZ bi aW au;obtain⟨as,ab⟩:=hh.readsAll bi aW bH _ aR az cv;exact⟨_,ReadsW.tuple aT ak hd ab⟩
 |.float _,_,_,x,_=>by cases x
 |.dict _,_,_,x,_=>by cases x
 |.bytearray _,_,_,x,_=>by cases x
 |.set _,_,_,x,_=>by cases x
 |.frozenset _,_,_,x,_=>by cases x
 |.obj _ _,_,_,x,_=>by cases x
theorem hh.readsAll (bi:eD P w H h)(aW:K.In h):∀(bH:List WData)(vs:List V)(us:List Value),lT K H vs bH->Vals vs us->∃as,ReadsAllW R cl h us bH as
 |[],_,_,x,r=>by cases x;cases r;exact⟨_,ReadsAllW.nil⟩
 |d::bH,_,_,x,r=>by
  cases x with
  |cons D G=>
   cases r with
   |cons b0 de=>obtain⟨as,q1⟩:=hh.reads bi aW d _ _ D b0;obtain⟨_,bb⟩:=hh.readsAll bi aW bH _ _ G de;exact⟨_,ReadsAllW.cons q1 bb⟩
end
end
mutual
def ko:WData->Bool
 |.none=>true
 |.bool _=>true
 |.int _=>true
 |.str _=>true
 |.bytes _=>true
 |.list xs=>lU xs
 |.tuple xs=>lU xs
 |_=>false
def lU:List WData->Bool
 |[]=>true
 |x::r=>ko x&&lU r
end
theorem Qy {bO:Type}{f:bO->WData}(h:∀a,ko (f a)=true):∀l:List bO,lU (l.map f)=true
 |[]=>rfl
 |x::r=>by show(ko (f x)&&lU (r.map f))=true;rw[h x,Qy h r]<;>rfl
theorem qs:∀(c:Codec)(a:c.denote),ko (c.enc a)=true
 |.unit,_=>rfl
 |.bool,_=>rfl
 |.int _ _,_=>rfl
 |.nat _ _,_=>rfl
 |.u8,_=>rfl
 |.bytes _ _,_=>rfl
 |.text _ _ _ _,_=>rfl
 |.list _ _ c,a=>Qy (λ x=>qs c x) a
 |.pair c d,a=>by show(ko (c.enc a.1)&&(ko (d.enc a.2)&&true))=true;rw[qs c a.1,qs d a.2]<;>rfl
 |.triple c d e,a=>by show(ko (c.enc a.1)&&(ko (d.enc a.2.1)&&(ko (e.enc a.2.2)&&true)))=true;rw[qs c a.1,qs d a.2.1,qs e a.2.2]<;>rfl
 |.option c,none=>rfl
 |.option c,some x=>qs c x
theorem Qz:∀(cs:List Codec)(a:Codec.denoteAll cs),lU (Codec.encAll cs a)=true
 |[],_=>rfl
 |c::cs,a=>by show(ko (c.enc a.1)&&lU (Codec.encAll cs a.2))=true;rw[qs c a.1,Qz cs a.2]<;>rfl
theorem FI:∀{xs:List WData}{d:WData},d∈xs->d.weight<=WData.weightAll xs
 |[],d,h=>absurd h ⇑2
 |x::r,d,h=>by
  show d.weight<=x.weight+1+WData.weightAll r;rcases bN.mp h with e|m
  ·rw[e];omega
  ·have B:=FI m;omega
def toV:Value->V
 |.none=>.b6
 |.bool b=>.bg b
 |.int i _=>.int i
 |.str x _=>.str x
 |.bytes b _=>.iM b
 |.ref a=>.ref a
 |_=>.b6
def k4 (A:List Addr):Value->Prop
 |.none=>True
 |.bool _=>True
 |.int _ _=>True
 |.str _ _=>True
 |.bytes _ _=>True
 |.ref a=>a∈A
 |_=>False
def k4.mono (h:∀a∈A,a∈ds):∀{u:Value},k4 A u->k4 ds u:=λ {u} x=>by
 cases u with
 |ref a=>exact h a x
 |none=>trivial
 |bool b=>trivial
 |int i t=>trivial
 |str s t=>trivial
 |bytes b t=>trivial
 |_=>exact False.elim x
def Z0 (x:k4 A u):RelV (toV u) u:=by
 cases u with
 |ref a=>rfl
 |none=>rfl
 |bool b=>rfl
 |int i t=>exact⟨t,z⟩
 |str s t=>exact⟨t,z⟩
 |bytes b t=>exact⟨t,z⟩
 |_=>exact False.elim x
theorem ur:∀{vs:List Value},(∀u∈vs,k4 A u)->Vals (vs.map toV) vs
 |[],_=>.nil
 |u::r,h=>.cons (Z0 (h u (cn ..))) (ur λ x aa=>h x (cu _ aa))
inductive lV(h:Heap)(A:List Addr)(a:Addr):Prop|mk (vs:List Value):vs.length<=sizeLine->(∀u∈vs,k4 A u)->(h.get? a=some {cls:=.type "list",data:=.seq vs.toArray}\/h.get? a=some {cls:=.type "tuple",data:=.seq vs.toArray})->lV h A a
def lV.mono (k:∀a∈A,a∈ds)(x:lV h A a):lV h ds a:=by obtain⟨vs,D,G,an⟩:=x;exact⟨vs,D,λ u a1=>(G u a1).mono k,an⟩
theorem AN:∀{vs:List Value}{bH:List WData},WellAll P h vs bH->vs.length=bH.length
 |_,_,.nil=>rfl
 |_,_,.cons _ b=>by show _+1=_+1;rw[AN b]
def QA (x:Well P h v (.list bH)):∃a vs,v=.ref a/\h.get? a=some {cls:=.type "list",data:=.seq vs.toArray}/\WellAll P h vs bH:=by
 cases x with
 |list aT jQ=>exact⟨_,_,z,aT,jQ⟩
def QB (x:Well P h v (.tuple bH)):∃a vs,v=.ref a/\h.get? a=some {cls:=.type "tuple",data:=.seq vs.toArray}/\WellAll P h vs bH:=by
 cases x with
 |tuple aT jQ=>exact⟨_,_,z,aT,jQ⟩
def QC (x:WellAll P h us (d::bH)):∃v vs,us=v::vs/\Well P h v d/\WellAll P h vs bH:=by
 cases x with
 |cons a b=>exact⟨_,_,z,a,b⟩
def QD (h:n<=1048576):n<=sizeLine:=cK h ⇑0
section
variable{P:Params}{h:Heap}
mutual
theorem Z1:∀(d:WData)(v:Value),Well P h v d->ko d=true->d.weight<=1048576->∃A:List Addr,k4 A v/\∀a∈A,lV h A a
 |.none,_,x,_,_=>by cases x;exact⟨[],trivial,λ a m=>absurd m ⇑2⟩
 |.bool b,_,x,_,_=>by cases x;exact⟨[],trivial,λ a m=>absurd m ⇑2⟩
 |.int i,_,x,_,_=>by cases x;exact⟨[],trivial,λ a m=>absurd m ⇑2⟩
 |.str s,_,x,_,_=>by cases x;exact⟨[],trivial,λ a m=>absurd m ⇑2⟩
 |.bytes b,_,x,_,_=>by cases x;exact⟨[],trivial,λ a m=>absurd m ⇑2⟩
 |.list bH,_,x,p,B=>by
  obtain⟨a,vs,rfl,aT,jQ⟩:=QA x;have e_:WData.weightAll bH<=1048576:=B;obtain⟨A,D,G⟩:=AO bH _ jQ p λ d hd=>cK (FI hd) e_;have k:∀b∈A,b∈a::A:=λ b Y=>cu _ Y;refine⟨a::A,cn ..,λ b Y=>?_⟩;rcases bN.mp Y with e|m
  ·rw[e];exact⟨vs,QD (by rw[AN jQ];exact cK (Nt bH) e_),λ u a1=>(D u a1).mono k,.inl aT⟩
  ·exact(G b m).mono k
 |.tuple bH,_,x,p,B=>by
  obtain⟨a,vs,rfl,aT,jQ⟩:=QB x;have e_:WData.weightAll bH<=1048576:=B;obtain⟨A,D,G⟩:=AO bH _ jQ p λ d hd=>cK (FI hd) e_;have k:∀b∈A,b∈a::A:=λ b Y=>cu _ Y;refine⟨a::A,cn ..,λ b Y=>?_⟩;rcases bN.mp Y with e|m
  ·rw[e];exact⟨vs,QD (by rw[AN jQ];exact cK (Nt bH) e_),λ u a1=>(D u a1).mono k,.inr aT⟩
  ·exact(G b m).mono k
 |.float _,_,_,p,_=>Bool.noConfusion (show false=true from p)
 |.dict _,_,_,p,_=>Bool.noConfusion (show false=true from p)
 |.bytearray _,_,_,p,_=>Bool.noConfusion (show false=true from p)
 |.set _,_,_,p,_=>Bool.noConfusion (show false=true from p)
 |.frozenset _,_,_,p,_=>Bool.noConfusion (show false=true from p)
 |.obj _ _,_,_,p,_=>Bool.noConfusion (show false=true from p)
theorem AO:∀(bH:List WData)(vs:List Value),WellAll P h vs bH->lU bH=true->(∀d∈bH,d.weight<=1048576)->∃A:List Addr,(∀u∈vs,k4 A u)/\∀a∈A,lV h A a
 |[],_,x,_,_=>by cases x;exact⟨[],λ u m=>absurd m ⇑2,λ a m=>absurd m ⇑2⟩
 |d::bH,_,x,p,B=>by
  obtain⟨v,vs,rfl,t2,FJ⟩:=QC x;have q:ko d=true/\lU bH=true:=NP.mp p;obtain⟨A,kp,mZ⟩:=Z1 d v t2 q.1 (B d (cn ..));obtain⟨ds,QE,uj⟩:=AO bH vs FJ q.2 λ e a3=>B e (cu _ a3);have QF:∀b∈A,b∈A++ds:=λ b Y=>eJ.mpr (.inl Y);have QG:∀b∈ds,b∈A++ds:=λ b Y=>eJ.mpr (.inr Y);refine⟨A++ds,λ u a1=>?_,λ b Y=>?_⟩
  ·rcases bN.mp a1 with e|m
   ·rw[e];exact kp.mono QF
   ·exact(QE u m).mono QG
  ·rcases eJ.mp Y with m|m
   ·exact(mZ b m).mono QF
   ·exact(uj b m).mono QG
end
end
def AP (o:Obj):Option gn:=match o.data with
 |.seq vs _=>if (o.cls==Value.type "list")=true then some (.hT o (.lst (vs.toList.map toV))) else some (.hT o (.tup (vs.toList.map toV)))
 |_=>none
def h3 (K:Frag)(h:Heap)(A:List Addr):aP:=λ b=>if b∈A then(if (K.lookup b).isNone=true then(h.get? b).bind AP else none) else none
def xL (H:aP):Prop:=∀b,H b=none\/∃o u,H b=some (.hT o u)
def QH (vs:List Value):AP {cls:=.type "list",data:=.seq vs.toArray}=some (.hT {cls:=.type "list",data:=.seq vs.toArray} (.lst (vs.map toV))):=by show(if (Value.type "list"==Value.type "list")=true then some (gn.hT {cls:=.type "list",data:=.seq vs.toArray} (.lst (vs.toArray.toList.map toV))) else some (gn.hT {cls:=.type "list",data:=.seq vs.toArray} (.tup (vs.toArray.toList.map toV))))=_;rw[aA (DX _)]
def QI (vs:List Value):AP {cls:=.type "tuple",data:=.seq vs.toArray}=some (.hT {cls:=.type "tuple",data:=.seq vs.toArray} (.tup (vs.map toV))):=by show(if (Value.type "tuple"==Value.type "list")=true then some (gn.hT {cls:=.type "tuple",data:=.seq vs.toArray} (.lst (vs.toArray.toList.map toV))) else some (gn.hT {cls:=.type "tuple",data:=.seq vs.toArray} (.tup (vs.toArray.toList.map toV))))=_;rw[ay ⇑0]
section
variable{P:Program}{w:World}{K:Frag}{h:Heap}{A:List Addr}
def AQ (Y:b∈A)(ax:K.lookup b=none)(e:h.get? b=some o):h3 K h A b=AP o:=by unfold h3;rw[aA Y,ax,aA (show(none:Option Obj).isNone=true from rfl),e]<;>rfl
def Z2 (q:h3 K h A b=some u):b∈A/\K.lookup b=none:=by
 unfold h3 at q;by_cases Y:b∈A
 ·rw[aA Y] at q;cases ax:K.lookup b with
  |none=>exact⟨Y,z⟩
  |some o=>rw[ax,ay ⇑2] at q;cases q
 ·rw[ay Y] at q;cases q
def AR (gL:∀a∈A,lV h A a)(q:h3 K h A b=some u):K.lookup b=none/\∃vs:List Value,vs.length<=sizeLine/\(∀u∈vs,k4 A u)/\
  ((h.get? b=some {cls:=.type "list",data:=.seq vs.toArray}/\u=.hT {cls:=.type "list",data:=.seq vs.toArray} (.lst (vs.map toV)))\/
   (h.get? b=some {cls:=.type "tuple",data:=.seq vs.toArray}/\u=.hT {cls:=.type "tuple",data:=.seq vs.toArray} (.tup (vs.map toV)))):=by
 obtain⟨Y,ax⟩:=Z2 q;obtain⟨vs,D,G,an⟩:=gL b Y;refine⟨ax,vs,D,G,?_⟩;rcases an with e|e
 ·rw[AQ Y ax e,QH] at q;exact .inl ⟨e,(eV q).symm⟩
 ·rw[AQ Y ax e,QI] at q;exact .inr ⟨e,(eV q).symm⟩
def Z3 (gL:∀a∈A,lV h A a):xL (h3 K h A):=λ b=>by
 cases q:h3 K h A b with
 |none=>exact .inl z
 |some u=>
  obtain⟨_,_,_,_,⟨_,e⟩|⟨_,e⟩⟩:=AR gL q;·exact .inr ⟨_,_,by rw[e]⟩
  ·exact .inr ⟨_,_,by rw[e]⟩
def Z4 (gL:∀a∈A,lV h A a):eD P w (h3 K h A) h:=λ _ _ q=>by
 obtain⟨_,vs,D,G,⟨e,rfl⟩|⟨e,rfl⟩⟩:=AR gL q;·exact⟨e,by rw[be];exact D,vs,_,ur G,e⟩
 ·exact⟨e,by rw[be];exact D,vs,ur G,_,e,z,_,z⟩
def AS {vs us:List Value}(e:(some {cls:=c,data:=.seq vs.toArray}:Option Obj)=some {cls:=dw,data:=.seq us.toArray}):c=dw/\vs=us:=by
 have ap:=eV e;have ao:=congrArg Obj.cls ap;have bz:=congrArg Obj.data ap;injection bz with fe
 refine⟨ao,?_⟩;have fT:=congrArg Array.toList fe;simpa using fT
def Z5 (aW:K.In h)(gL:∀a∈A,lV h A a){vs:List Value}(az:a∈A)(e:h.get? a=some {cls:=.type "list",data:=.seq vs.toArray}):(∀u∈vs,k4 A u)/\aG K (h3 K h A) a (vs.map toV):=by
 obtain⟨us,D,G,an⟩:=gL a az;have a1:us=vs:=by
  rcases an with q|q
  ·rw[e] at q;exact(AS q).2.symm
  ·rw[e] at q;exact absurd (Value.type.inj (AS q).1) ⇑0
 subst a1;refine⟨G,?_⟩;cases ax:K.lookup a with
 |none=>exact .inl (.inr ⟨_,by rw[AQ az ax e,QH]⟩)
 |some o=>have ao:=aW a o ax;rw[e] at ao;obtain rfl:=eV ao;exact .inr ⟨_,us.toArray,_,ax,z,z,z,by rw[fk];exact D,by simpa using ur G⟩
def Z6 (aW:K.In h)(gL:∀a∈A,lV h A a){vs:List Value}(az:a∈A)(e:h.get? a=some {cls:=.type "tuple",data:=.seq vs.toArray}):(∀u∈vs,k4 A u)/\dh K (h3 K h A) a (vs.map toV):=by
 obtain⟨us,D,G,an⟩:=gL a az;have a1:us=vs:=by
  rcases an with q|q
  ·rw[e] at q;exact absurd (Value.type.inj (AS q).1) ⇑0
  ·rw[e] at q;exact(AS q).2.symm
 subst a1;refine⟨G,?_⟩;cases ax:K.lookup a with
 |none=>exact .inl (.inr ⟨_,by rw[AQ az ax e,QI]⟩)
 |some o=>have ao:=aW a o ax;rw[e] at ao;obtain rfl:=eV ao;exact .inr ⟨_,us.toArray,_,ax,z,z,by rw[fk];exact D,by simpa using ur G⟩
mutual
theorem Z7 {FK:Params}(aW:K.In h)(gL:∀a∈A,lV h A a):∀(d:WData)(v:Value),Well FK h v d->ko d=true->k4 A v->hh K (h3 K h A) (toV v) d
 |.none,_,x,_,_=>by cases x;exact .b6
 |.bool b,_,x,_,_=>by cases x;exact .bg b
 |.int i,_,x,_,_=>by cases x;exact .int i
 |.str s,_,x,_,_=>by cases x;exact .str s
 |.bytes b,_,x,_,_=>by cases x;have B:=hh.iM (K:=K) (H:=h3 K h A) b.toArray;exact B
 |.list bH,_,x,p,a1=>by obtain⟨a,vs,rfl,aT,jQ⟩:=QA x;obtain⟨G,au⟩:=Z5 aW gL a1 aT;exact .lst au (AT aW gL bH _ jQ p G)
 |.tuple bH,_,x,p,a1=>by obtain⟨a,vs,rfl,aT,jQ⟩:=QB x;obtain⟨G,au⟩:=Z6 aW gL a1 aT;exact .tup au (AT aW gL bH _ jQ p G)
 |.float _,_,_,p,_=>Bool.noConfusion (show false=true from p)
 |.dict _,_,_,p,_=>Bool.noConfusion (show false=true from p)
 |.bytearray _,_,_,p,_=>Bool.noConfusion (show false=true from p)
 |.set _,_,_,p,_=>Bool.noConfusion (show false=true from p)
 |.frozenset _,_,_,p,_=>Bool.noConfusion (show false=true from p)
 |.obj _ _,_,_,p,_=>Bool.noConfusion (show false=true from p)
theorem AT {FK:Params}(aW:K.In h)(gL:∀a∈A,lV h A a):∀(bH:List WData)(vs:List Value),WellAll FK h vs bH->lU bH=true->(∀u∈vs,k4 A u)->lT K (h3 K h A) (vs.map toV) bH
 |[],_,x,_,_=>by cases x;exact .nil
 |d::bH,_,x,p,a1=>by obtain⟨v,vs,rfl,t2,FJ⟩:=QC x;have q:ko d=true/\lU bH=true:=NP.mp p;exact .cons (Z7 aW gL d v t2 q.1 (a1 _ (cn ..))) (AT aW gL bH vs FJ q.2 λ u m=>a1 u (cu _ m))
end
end
def Z8 {K:Frag}(aW:K.In dA.heap)(AU:dA.heap.Ns mainGlobals am)(Y:dA.heap.Ns builtinsNs w0)(xM:∀x:Str,x≠"__name__"->w0 x=bootBuiltins x)(Z9:dA.heap.NoLimit)(bL:dA.gens= #[])(jS:WellAll w.params dA.heap vals bH)(d2:lU bH=true)(Z_:∀d∈bH,d.weight<=1048576)(ab:ea k callerA)(F:∀base:Heap,K.In base->base.Ns mainGlobals am->fB P w K am base CX k cg fd ps sp)(Z':∀s us,us.length=ps.length->BindsTo s fd ⟨us,[]⟩ (ps.zip us))(bR:bH.length=ps.length)(nT:∀H xs,xL H->lT K H xs bH->sp xs H (λ v J=>hh K J v d0) λ _ _ _=>False)(xN:∀H e aV,CX [] H dA (λ _ _ _=>False) e aV->False):codeAny (model P w) callerA (.call (.ref cg) ⟨vals,[]⟩) (λ r aV=>∃u as,r=.ok (.ret u)/\ReadsW R cl aV.heap u d0 as/\OldK dA.heap aV.heap/\aV.os=dA.os/\AllBare aV.gens) dA:=by
 obtain⟨A,aT,gL⟩:=AO bH vals jS d2 Z_;have jT:xL (h3 K dA.heap A):=Z3 gL;have bi:eD P w (h3 K dA.heap A) dA.heap:=Z4 gL;have a8:=AT aW gL bH vals jS d2 aT;have aaa:=ur aT;have fA:∀b u,h3 K dA.heap A b=some u->K.lookup b=none:=λ b u q=>(AR gL q).1;have t4:∀{b:Addr}{o:Obj}{ae:Array DictEntry}{ep:Nat},dA.heap.get? b=some o->o.data=.dict ae ep->h3 K dA.heap A b=none:=λ {b o ae ep} e d=>by
  cases q:h3 K dA.heap A b with
  |none=>rfl
  |some u=>
   obtain⟨_,vs,_,_,⟨ao,_⟩|⟨ao,_⟩⟩:=AR gL q
   ·rw[ao] at e;cases e;have d':=d;cases d'
   ·rw[ao] at e;cases e;have d':=d;cases d'
 generalize h3 K dA.heap A=H at jT bi a8 fA t4;have QJ:∀{b:Addr}{o:Obj},dA.heap.get? b=some o->H b=none->(oY dA.heap H).get? b=some o:=λ e n=>WB e n;have AV:∀{b:Addr}{m:Str->Option Value},dA.heap.Ns b m->(oY dA.heap H).Ns b m:=λ {b m}⟨o,ae,ep,e,d,r⟩=>⟨o,ae,ep,QJ e (t4 e d),d,r⟩;have aab:∀b o,K.lookup b=some o->H b=none:=λ b o e=>by
  cases q:H b with
  |none=>rfl
  |some u=>rw[fA b u q] at e;cases e
 have QK:K.In (oY dA.heap H):=λ b o e=>QJ (aW b o e) (aab b o e);have aac:Mod K am (oY dA.heap H):=⟨QK,AV AU,⟨w0,AV Y,xM⟩,let ⟨aad,D,G⟩:=Z9;⟨aad,AV D,G⟩⟩;have cD:rV P w K am (oY dA.heap H) callerA [] dA H:=⟨z,aac,λ b o e=>WC e,wS (WA _ _),trivial,λ b Y=>absurd (show b∈([]:List Addr) from Y) ⇑2,bi,.of_eq bL⟩;have ah:vals.length=ps.length:=by rw[AN jS];exact bR
 refine oV ((F _ QK (AV AU)).run callerA [] dA H ⟨vals,[]⟩ vals (vals.map toV) _ _ ab cD (Z' dA vals ah) aaa (nT H _ jT a8)) λ r aV x=>?_;cases r with
 |error e=>exact(xN H e aV x).elim
 |ok f8=>
  cases f8 with
  |next=>exact False.elim x
  |brk=>exact False.elim x
  |cont=>exact False.elim x
  |ret u=>
   obtain⟨v,J,os,bare,un,QL,eE,q⟩:=x;have kept:∀b o,dA.heap.get? b=some o->aV.heap.get? b=some o:=λ b o e=>by
    cases bb:H b with
    |none=>exact un.keep b o e bb (by intro B;exact absurd (show b∈([]:List Addr) from B) ⇑2) ⇑2
    |some qq=>
     rcases jT b with B|⟨ob,ak2,B⟩
     ·rw[bb] at B;cases B
     ·have e_:=un.nK b ob _ B;obtain⟨ap,_⟩:=bi b _ B;obtain⟨ao,_⟩:=QL b _ e_;rw[e] at ap;cases ap;exact ao
   have aae:K.In aV.heap:=λ b o e=>kept b o (aW b o e);obtain⟨as,AW⟩:=hh.reads (R:=R) (cl:=cl) QL aae d0 v u q eE;exact⟨u,as,z,AW,OldK.of_keep kept,os,bare⟩
def aaf (h:WData.layableAll bH=true):∀d∈bH,d.weight<=1048576:=λ d hd=>(PySem.W.layableW_iff.mp (hq.mp h d hd)).2.2
theorem QM:∀(cs:List Codec)(a:Codec.denoteAll cs),(Codec.encAll cs a).length=cs.length
 |[],_=>rfl
 |c::cs,a=>by show(Codec.encAll cs a.2).length+1=cs.length+1;rw[QM cs a.2]
def aag {K:Params->Frag}{CX:World->rU}{sp:World->bA}(FL:r.wellSaid=true)(QN:d.params.defaults=[])(bR:r.args.length=ps.length)(ab:ea k callerA)(FM:∀w h,xO w h->(K w.params).In h)(F:∀w am cg h,xO w h->(K w.params).In h->h.Ns mainGlobals am->am d.name=some (.ref cg)->∃fd:FuncData,(∀s us,us.length=ps.length->BindsTo s fd ⟨us,[]⟩ (ps.zip us))/\∀base:Heap,(K w.params).In base->base.Ns mainGlobals am->fB r.prog w (K w.params) am base (CX w) k cg fd ps (sp w))(nT:∀(w:World)(H:aP)(xs:List V)(a:Codec.denoteAll r.args),xL H->Codec.withinAll r.args a=true->Codec.app r.args r.asked a=true->lT (K w.params) H xs (Codec.encAll r.args a)->sp w xs H (λ v J=>hh (K w.params) J v (r.ret.enc (Codec.app r.args r.f a))) λ _ _ _=>False)(xN:∀w H s e aV,CX w [] H s (λ _ _ _=>False) e aV->False):PySem.W.WalkOS q loose aah xO r d [] (λ f vs=>PySem.call f vs):=by
 intro w hx dA am _ a2 xP cg _ _ _ _ _ _ _ _ _ _ FN bL args _ _ aai aaj _ jS _;obtain⟨a,ap,ao⟩:=PySem.W.os_pre_some aai;obtain⟨bz,FO⟩:=Codec.encAll_of_decAll r.args args a ap;subst bz;have aW:=FM w _ xP;obtain⟨fd,Y,lW⟩:=F w am cg _ xP aW a2.T.g FN;refine PySem.W.enter_call (oV (Z8 (R:=[]) (cl:=classAt hx.heap) (d0:=r.ret.enc (Codec.app r.args r.f a)) aW a2.T.g a2.T.b a2.T.builtins a2.T.nolimit bL jS (Qz _ _) (aaf aaj) ab lW Y (by rw[QM];exact bR)
  (λ H xs jT a8=>nT w H xs a jT FO ao a8) λ H e aV=>xN w H dA e aV) λ _ aV aK=>?_)
 obtain⟨u,ut,rfl,D,G,an,aU⟩:=aK;exact⟨.inl ⟨u,_,ut,z,λ _=>rfl,D,(OpenSpec.post_iff FL FO _ _).mpr z,λ B=>Bool.noConfusion (show false=true from B)⟩,G,an,aU⟩
def aak {K:Params->Frag}{sp:Frag->bA}(FL:r.wellSaid=true)(QN:d.params.defaults=[])(bR:r.args.length=ps.length)(ab:ea k callerA)(FM:∀w h,xO w h->(K w.params).In h)(F:∀w am cg h,xO w h->(K w.params).In h->h.Ns mainGlobals am->am d.name=some (.ref cg)->∃fd:FuncData,(∀s us,us.length=ps.length->BindsTo s fd ⟨us,[]⟩ (ps.zip us))/\∀base:Heap,(K w.params).In base->base.Ns mainGlobals am->fB r.prog w (K w.params) am base CX k cg fd ps (sp (K w.params)))(nT:∀(K:Frag)(H:aP)(xs:List V)(a:Codec.denoteAll r.args),xL H->Codec.withinAll r.args a=true->Codec.app r.args r.asked a=true->lT K H xs (Codec.encAll r.args a)->sp K xs H (λ v J=>hh K J v (r.ret.enc (Codec.app r.args r.f a))) λ _ _ _=>False)(xN:∀H s e aV,CX [] H s (λ _ _ _=>False) e aV->False):PySem.W.WalkOS q loose aah xO r d [] (λ f vs=>PySem.call f vs):=aag (K:=K) (CX:=λ _=>CX) (sp:=λ w=>sp (K w.params)) FL QN bR ab FM F (λ w H xs a D G an aU=>nT (K w.params) H xs a D G an aU) λ _ H s e aV=>xN H s e aV
end ef
end
end
section
namespace M
open Vbtaae
noncomputable def ag:Sen->Nat
 |.kind _=>1|.under _ _=>2|.can _ _=>3|.counts _ _=>4|.isA _ _=>5|.told _ _ _=>6
 |.every _ _ _=>7|.usual _ _ _=>8|.value _ _ _=>9|.first _ _ _=>10|.inside _ _=>11
noncomputable def aF:Sen->Bytes
 |.kind k=>k|.under k _=>k|.can k _=>k|.counts k _=>k|.isA t _=>t|.told t _ _=>t
 |.every k _ _=>k|.usual k _ _=>k|.value _ t _=>t|.first _ k _=>k|.inside t _=>t
noncomputable def aD:Sen->Bytes
 |.kind _=>[]|.under _ l=>l|.can _ a=>a|.counts _ p=>p|.isA _ k=>k|.told _ a _=>a
 |.every _ a _=>a|.usual _ a _=>a|.value p _ _=>p|.first p _ _=>p|.inside _ u=>u
noncomputable def bv:Sen->Int
 |.told _ _ y=>truth y|.every _ _ y=>truth y|.usual _ _ y=>truth y|.value _ _ n=>n|.first _ _ n=>n|_=>1
structure cE (s:Sen):Prop where
 aF:isName (aF s)=true
 aD:ag s=1\/isName (aD s)=true
 lo: -1000000000<=bv s
 aj:bv s<=1000000000
def AX (h:isName b=true):b≠[]:=by intro e;subst e;exact absurd h ⇑0
def cE.FP (h:cE s):M.aF s≠[]:=AX h.aF
def cg (f:Nat)(a:Bytes)(s:Sen):Bool:=ag s==f&&aF s==a
def cH (f:Nat)(a o:Bytes)(s:Sen):Bool:=ag s==f&&(aF s==a&&aD s==o)
def bm (p:Sen->Bool)(ls:Lines):Option (Nat×Sen):=ls.find? λ x=>p x.2
def jU (h:p x.2=true):bm p (x::r)=some x:=by unfold bm;rw[io];simp only[h]
def kq (h:p x.2=false):bm p (x::r)=bm p r:=by unfold bm;rw[io];simp only[h]
def lX (ls)(p):clashWith ls p=(bm p ls).map (·.1):=rfl
theorem r9 (g)(p)(h:Sen->bO)(e:∀s,g s=if p s=true then some (h s) else none):
  ∀ls:Lines,firstOf g ls=(bm p ls).map λ x=>(x.1,h x.2)
 |[]=>rfl
 |x::r=>by
  unfold firstOf;rw[e x.2];by_cases q:p x.2=true;·rw[aA q,jU q];rfl
  ·rw[ay q,kq ↥q];exact r9 g p h e r
def a7 (ls:Lines)(f:Nat)(k:Bytes):Option (Nat×Bytes):=(bm (cg f k) ls).map λ x=>(x.1,aD x.2)
def AY (ls):overOf ls=a7 ls 2:=by funext k;unfold overOf a7;refine r9 _ (cg 2 k) aD (λ s=>?_) ls;cases s<;>first|rfl|simp[cg,ag,aF,aD]
def uu (ls):kindOf ls=a7 ls 5:=by funext k;unfold kindOf a7;refine r9 _ (cg 5 k) aD (λ s=>?_) ls;cases s<;>first|rfl|simp[cg,ag,aF,aD]
def FQ (ls):placeOf ls=a7 ls 11:=by funext k;unfold placeOf a7;refine r9 _ (cg 11 k) aD (λ s=>?_) ls;cases s<;>first|rfl|simp[cg,ag,aF,aD]
theorem kr:∀n l,(numbered n l).length=l.length
 |_,[]=>rfl
 |n,s::r=>by show(numbered (n+1) r).length+1=r.length+1;rw[kr]
theorem QO:∀n l,(numbered n l).map (·.2)=l
 |_,[]=>rfl
 |n,s::r=>by show s::(numbered (n+1) r).map (·.2)=s::r;rw[QO]
theorem uv:∀n l i,(numbered n l)[i]?=l[i]?.map λ s=>(n+i,s)
 |_,[],i=>by simp[numbered]
 |n,s::r,0=>by simp[numbered]
 |n,s::r,i+1=>by
  show(numbered (n+1) r)[i]?=_;rw[uv (n+1) r i];simp only[wu];cases r[i]? with
  |none=>rfl
  |some B=>simp only[oQ];rw[show n+1+i=n+(i+1) by omega]
theorem QP:∀n l m,numbered n (l++m)=numbered n l++numbered (n+l.length) m
 |n,[],m=>by simp[numbered]
 |n,s::r,m=>by show(n,s)::numbered (n+1) (r++m)=(n,s)::(numbered (n+1) r++numbered (n+(r.length+1)) m);rw[QP (n+1) r m,show n+1+r.length=n+(r.length+1) by omega]
def aal (h:x∈⇑6 l):∃i,x.1=i+1/\l[i]?=some x.2:=by
 obtain⟨i,aj⟩:=DJ.mp h;rw[uv] at aj;cases e:l[i]? with
 |none=>rw[e] at aj;cases aj
 |some s=>rw[e] at aj;have q:=eV aj;subst q;exact⟨i,by simp;omega,e⟩
section
variable(f:Bytes->Option (Nat×Bytes))
def up:Nat->List Bytes->Bytes->List (Nat×Bytes)
 |0,_,_=>[]
 |n+1,seen,k=>if k∈seen then[] else match f k with
  |none=>[]
  |some x=>x::up n (k::seen) x.2
def xQ {n:Nat}{seen:List Bytes}{k:Bytes}(h:k∈seen):up f n seen k=[]:=by
 cases n with
 |zero=>rfl
 |succ n=>unfold up;rw[aA h]
def r_ {n:Nat}{seen:List Bytes}{k:Bytes}(h:f k=none):up f n seen k=[]:=by
 cases n with
 |zero=>rfl
 |succ n=>unfold up;rw[h];split<;>rfl
def qt {n:Nat}{seen:List Bytes}{k:Bytes}{x:Nat×Bytes}(ax:¬k∈seen)(h:f k=some x):up f (n+1) seen k=x::up f n (k::seen) x.2:=by rw[up,ay ax,h]
def pe {n:Nat}{k:Bytes}{x:Nat×Bytes}(h:f k=some x):climb f (n+1) k=x::climb f n x.2:=by rw[climb,h]
def r' {n:Nat}{k:Bytes}(h:f k=none):climb f n k=[]:=by
 cases n with
 |zero=>rfl
 |succ n=>rw[climb,h]
theorem FR {S:Bytes->Prop}(a8:∀s,S s->∀x,f s=some x->S x.2):∀(n:Nat)(k:Bytes),S k->∀x∈climb f n k,S x.2
 |0,_,_,x,aa=>by simp[climb] at aa
 |n+1,k,ax,x,aa=>by
  cases e:f k with
  |none=>rw[r' f e] at aa;simp at aa
  |some y=>
   rw[pe f e] at aa;rcases bN.mp aa with rfl|aa
   ·exact a8 k ax _ e
   ·exact FR a8 n y.2 (a8 k ax y e) x aa
theorem QQ:∀(n:Nat)(seen:List Bytes)(k:Bytes),(∀s∈seen,∀x,f s=some x->x.2∈seen\/x.2=k)->
  ∃R,climb f n k=up f n seen k++R/\∀x∈R,x.2∈seen\/x.2=k\/x.2∈(up f n seen k).map (·.2)
 |0,seen,k,_=>⟨[],z,λ x aa=>by simp at aa⟩
 |n+1,seen,k,ak=>by
  by_cases ax:k∈seen
  ·refine⟨climb f (n+1) k,by rw[xQ f ax];rfl,λ x aa=>Or.inl ?_⟩;refine FR f (S:=λ b=>b∈seen) (λ s au x aa=>?_) (n+1) k ax x aa;rcases ak s au x aa with h|h
   ·exact h
   ·rw[h];exact ax
  ·cases e:f k with
   |none=>exact⟨[],by rw[r' f e,r_ f e];rfl,λ x aa=>by simp at aa⟩
   |some y=>
    obtain⟨R,D,G⟩:=QQ n (k::seen) y.2 (λ s au x aa=>by
     rcases bN.mp au with rfl|au;·rw[e] at aa;cases aa;exact .inr z
     ·rcases ak s au x aa with h|h
      ·exact .inl (cu _ h)
      ·exact .inl (by rw[h];exact cn))
    refine⟨R,by rw[pe f e,qt f ax e,D];rfl,λ x aa=>?_⟩;rw[qt f ax e];rcases G x aa with h|h|h
    ·rcases bN.mp h with h|h
     ·exact .inr (Or.inl h)
     ·exact .inl h
    ·exact .inr (Or.inr (by rw[h];exact cn))
    ·exact .inr (Or.inr (cu _ h))
def c1 (a b:Bytes):Prop:=∃n,∃x∈climb f n a,x.2=b
def hC:Prop:=∀a,¬c1 f a a
def c1.one {a:Bytes}{x:Nat×Bytes}(h:f a=some x):c1 f a x.2:=⟨1,x,by rw[pe f h];exact cn,z⟩
def c1.cons {a b:Bytes}{x:Nat×Bytes}(h:f a=some x)(r:c1 f x.2 b):c1 f a b:=by obtain⟨n,y,aC,e⟩:=r;exact⟨n+1,y,by rw[pe f h];exact cu _ aC,e⟩
def c1.inv {a b:Bytes}(r:c1 f a b):∃x,f a=some x/\(x.2=b\/c1 f x.2 b):=by
 obtain⟨n,y,aC,e⟩:=r;cases n with
 |zero=>simp[climb] at aC
 |succ n=>
  cases q:f a with
  |none=>rw[r' f q] at aC;simp at aC
  |some x=>
   rw[pe f q] at aC;rcases bN.mp aC with rfl|aC
   ·exact⟨_,z,Or.inl e⟩
   ·exact⟨x,z,Or.inr ⟨n,y,aC,e⟩⟩
def c1.AZ {b:Bytes}{P:Bytes->Prop}(aX:∀a x,f a=some x->x.2=b->P a)(D:∀a x,f a=some x->c1 f x.2 b->P x.2->P a):∀{a:Bytes},c1 f a b->P a:=by
 intro a r;obtain⟨n,y,aC,e⟩:=r;induction n generalizing a with
 |zero=>simp[climb] at aC
 |succ n ih=>
  cases q:f a with
  |none=>rw[r' f q] at aC;simp at aC
  |some x=>
   rw[pe f q] at aC;rcases bN.mp aC with rfl|aC
   ·exact aX a _ q e
   ·exact D a x q ⟨n,y,aC,e⟩ (ih aC)
def c1.trans {a b c:Bytes}(r:c1 f a b)(q:c1 f b c):c1 f a c:=c1.AZ f (P:=λ a=>c1 f a c) (λ a x h e=>c1.cons f h (by rw[e];exact q)) (λ a x h _ ih=>c1.cons f h ih) r
theorem QR (aB:hC f):∀(n:Nat)(seen:List Bytes)(k:Bytes),(∀s∈seen,c1 f s k)->up f n seen k=climb f n k
 |0,_,_,_=>rfl
 |n+1,seen,k,h=>by
  have ax:¬k∈seen:=λ m=>aB k (h k m);cases e:f k with
  |none=>rw[r' f e,r_ f e]
  |some x=>
   rw[pe f e,qt f ax e,QR aB n (k::seen) x.2 λ s au=>?_];rcases bN.mp au with rfl|au
   ·exact c1.one f e
   ·exact(h s au).trans f (c1.one f e)
end
def gM (h:bm p ls=some x):x∈ls/\p x.2=true:=⟨wt h,by have:=wJ h;simpa using this⟩
def kt:bm p ls=none↔∀x∈ls,p x.2=false:=by
 unfold bm;rw[zG];constructor;·intro h x aa;have:=h x aa;simpa using this
 ·intro h x aa;rw[h x aa];exact eo
def fK:cg f a s=true↔ag s=f/\aF s=a:=by simp[cg]
def h4:cH f a o s=true↔ag s=f/\aF s=a/\aD s=o:=by simp[cH]
def uw (h:a7 ls f k=some x):∃s,bm (cg f k) ls=some (x.1,s)/\x.2=aD s/\(x.1,s)∈ls/\ag s=f/\aF s=k:=by
 unfold a7 at h;cases e:bm (cg f k) ls with
 |none=>rw[e] at h;cases h
 |some y=>rw[e] at h;have q:=eV h;subst q;obtain⟨D,G⟩:=gM e;obtain⟨an,aU⟩:=fK.mp G;exact⟨y.2,z,z,D,an,aU⟩
def QS (h:a7 ls f k=some x):k∈ls.map λ y=>aF y.2:=by obtain⟨_,_,_,D,_,G⟩:=uw h;exact cd.mpr ⟨_,D,G⟩
def QT {l m:List Bytes}(h:l.Nodup)(au:∀x∈l,x∈m):l.length<=m.length:=oL h au
def b' (ls:Lines)(f:Nat)(k:Bytes):List (Nat×Bytes):=up (a7 ls f) (ls.length+1) [] k
def FS (ls)(f)(k):∃R,climb (a7 ls f) (ls.length+1) k=b' ls f k++R/\∀x∈R,x.2=k\/x.2∈(b' ls f k).map (·.2):=by obtain⟨R,D,G⟩:=QQ (a7 ls f) (ls.length+1) [] k (λ _ au=>by simp at au);exact⟨R,D,λ x aa=>by rcases G x aa with h|h;exact absurd h ⇑2;exact h⟩
theorem QU {ls:Lines}{f:Nat}:∀(n:Nat)(seen:List Bytes)(k:Bytes),seen.Nodup->(∀s∈seen,s∈ls.map λ y=>aF y.2)->ls.length<n+seen.length->
  (∀s∈seen,∀x,a7 ls f s=some x->x.2∈seen\/x.2=k)->
  ∀b,(b∈seen\/b=k\/b∈(up (a7 ls f) n seen k).map (·.2))->∀x,a7 ls f b=some x->(x.2∈seen\/x.2=k\/x.2∈(up (a7 ls f) n seen k).map (·.2))
 |0,seen,k,aB,hd,ah,ak,b,Y,x,aa=>by have:=QT aB hd;rw[be] at this;omega
 |n+1,seen,k,aB,hd,ah,ak,b,Y,x,aa=>by
  by_cases ax:k∈seen
  ·rw[xQ _ ax] at Y⊢;have aam:b∈seen:=by
    rcases Y with h|h|h;·exact h
    ·rw[h];exact ax
    ·simp at h
   rcases ak b aam x aa with h|h;·exact .inl h
   ·exact .inr (Or.inl h)
  ·cases e:a7 ls f k with
   |none=>
    rw[r_ _ e] at Y⊢;rcases Y with h|h|h
    ·rcases ak b h x aa with h|h
     ·exact .inl h
     ·exact .inr (Or.inl h)
    ·rw[h,e] at aa;cases aa
    ·simp at h
   |some y=>
    rw[qt _ ax e] at Y⊢;have ih:=QU n (k::seen) y.2 (i6.mpr ⟨ax,aB⟩) (λ s au=>by
     rcases bN.mp au with rfl|au;·exact QS e
     ·exact hd s au) (by simp only[cJ];omega) (λ s au B hz=>by
     rcases bN.mp au with rfl|au;·rw[e] at hz;cases hz;exact .inr z
     ·rcases ak s au B hz with h|h
      ·exact .inl (cu _ h)
      ·exact .inl (by rw[h];exact cn)) b (by
     rcases Y with h|h|h;·exact .inl (cu _ h)
     ·exact .inl (by rw[h];exact cn)
     ·rcases bN.mp h with h|h
      ·exact .inr (Or.inl h)
      ·exact .inr (Or.inr h)) x aa
    rcases ih with h|h|h
    ·rcases bN.mp h with h|h
     ·exact .inr (Or.inl h)
     ·exact .inl h
    ·exact .inr (Or.inr (by rw[h];exact cn))
    ·exact .inr (Or.inr (cu _ h))
def QV (r:c1 (a7 ls f) k b):b=k\/b∈(b' ls f k).map (·.2):=by
 obtain⟨n,x,aa,rfl⟩:=r;have ak:=QU (ls:=ls) (f:=f) (ls.length+1) [] k wL (λ s au=>by simp at au) ⇑2 (λ s au=>by simp at au);refine FR (a7 ls f) (S:=λ b=>b=k\/b∈(b' ls f k).map (·.2)) (λ s au B hz=>?_) n k (Or.inl z) x aa;rcases ak s (Or.inr au) B hz with h|h
 ·simp at h
 ·exact h
def A0 (aB:hC (a7 ls f))(k):climb (a7 ls f) (ls.length+1) k=b' ls f k:=(QR _ aB _ [] k λ _ au=>by simp at au).symm
theorem ux {ls:Lines}{f:Nat}:∀(n:Nat)(seen:List Bytes)(k:Bytes),∀x∈up (a7 ls f) n seen k,∃s,(x.1,s)∈ls/\ag s=f/\aD s=x.2/\¬aF s∈seen/\bm (cg f (aF s)) ls=some (x.1,s)
 |0,_,_,x,aa=>by simp[up] at aa
 |n+1,seen,k,x,aa=>by
  by_cases ax:k∈seen;·rw[xQ _ ax] at aa;simp at aa
  ·cases e:a7 ls f k with
   |none=>rw[r_ _ e] at aa;simp at aa
   |some y=>
    rw[qt _ ax e] at aa;rcases bN.mp aa with rfl|aa
    ·obtain⟨s,aX,D,G,an,aU⟩:=uw e;exact⟨s,G,an,D.symm,by rw[aU];exact ax,by rw[aU];exact aX⟩
    ·obtain⟨s,D,G,an,aU,bY⟩:=ux n (k::seen) y.2 x aa;exact⟨s,D,G,an,λ m=>aU (cu _ m),bY⟩
theorem A1 {ls:Lines}{f:Nat}(ah:∀x∈ls,∀y∈ls,x.1=y.1->x=y):∀(n:Nat)(seen:List Bytes)(k:Bytes),((up (a7 ls f) n seen k).map (·.1)).Nodup
 |0,_,_=>by simp[up]
 |n+1,seen,k=>by
  by_cases ax:k∈seen;·rw[xQ _ ax];simp
  ·cases e:a7 ls f k with
   |none=>rw[r_ _ e];simp
   |some y=>rw[qt _ ax e,bU];refine i6.mpr ⟨λ m=>?_,A1 ah n (k::seen) y.2⟩;obtain⟨B,hz,aan⟩:=cd.mp m;obtain⟨s,D,_,_,aU,_⟩:=ux n (k::seen) y.2 B hz;obtain⟨aV,_,_,a5,_,cx⟩:=uw e;have q:=ah _ D _ a5 aan;have bb:s=aV:=congrArg Prod.snd q;rw[bb,cx] at aU;exact aU cn
def n2:∀x∈numbered n l,∀y∈numbered n l,x.1=y.1->x=y:=by
 intro x aa y aC e;obtain⟨i,aj⟩:=DJ.mp aa;obtain⟨j,a0⟩:=DJ.mp aC;rw[uv] at aj a0;cases ap:l[i]? with
 |none=>rw[ap] at aj;cases aj
 |some a=>
  cases ao:l[j]? with
  |none=>rw[ao] at a0;cases a0
  |some b=>
   rw[ap] at aj;rw[ao] at a0;have q1:=eV aj;have bb:=eV a0;subst q1 bb;have:i=j:=by simp at e;exact e
   subst this;rw[ap] at ao;cases ao;rfl
def QW {bO fH:Type}(g:bO->Option fH)(A R:List bO)(h:∀x∈R,∃y∈A,g y=g x):(A++R).findSome? g=A.findSome? g:=by
 rw[zB];cases e:A.findSome? g with
 |some b=>rfl
 |none=>
  have q:R.findSome? g=none:=by rw[tj] at e⊢;intro x aa;obtain⟨y,aC,dQ⟩:=h x aa;rw[<-dQ];exact e y aC
  rw[q];rfl
def bF (ls:Lines)(k:Bytes):List Bytes:=k::(b' ls 2 k).map (·.2)
def QX (ls)(k):∃R,(chain ls k).map (·.2)=bF ls k++R/\∀b∈R,b∈bF ls k:=by
 obtain⟨R,D,G⟩:=FS ls 2 k;refine⟨R.map (·.2),?_,λ b Y=>?_⟩
 ·unfold chain bF;rw[AY,D,bU,db];rfl
 ·obtain⟨x,aa,rfl⟩:=cd.mp Y;rcases G x aa with h|h
  ·rw[h];exact cn
  ·exact cu _ h
def A2 {fH:Type}(ls)(k)(g:Bytes->Option fH):(chain ls k).findSome? (λ y=>g y.2)=(bF ls k).findSome? g:=by
 obtain⟨_,D,G⟩:=QX ls k;have e:(chain ls k).findSome? (λ y=>g y.2)=((chain ls k).map (·.2)).findSome? g:=by rw[List.findSome?_map];rfl
 rw[e,D];exact QW g _ _ λ x aa=>⟨x,G x aa,z⟩
def aao (ls)(k)(p):(chain ls k).any (λ y=>p y.2)=(bF ls k).any p:=by
 obtain⟨_,D,G⟩:=QX ls k;have e:(chain ls k).any (λ y=>p y.2)=((chain ls k).map (·.2)).any p:=by rw[rt];rfl
 rw[e,D,List.any_append];cases q:(bF ls k).any p with
 |true=>rfl
 |false=>rw[DP] at q;rw[Bool.false_or,DP];exact λ x aa=>q x (G x aa)
def A3 (aB:hC (a7 ls 2))(k):chain ls k=(0,k)::b' ls 2 k:=by unfold chain;rw[AY,A0 aB]
theorem FT:∀{l:List Nat},m∈insertNum n l↔m=n\/m∈l
 |[]=>by simp[insertNum]
 |x::r=>by
  unfold insertNum;split;·simp
  ·split
   ·rename_i h;subst h;simp
   ·rw[bN,FT (l:=r),bN];constructor
    ·rintro(h|h|h)
     ·exact .inr (Or.inl h)
     ·exact .inl h
     ·exact .inr (Or.inr h)
    ·rintro(h|h|h)
     ·exact .inr (Or.inl h)
     ·exact .inl h
     ·exact .inr (Or.inr h)
theorem QY {n:Nat}:∀{l:List Nat},l.Pairwise (· < ·)->(insertNum n l).Pairwise (· < ·)
 |[],_=>by simp[insertNum]
 |x::r,h=>by
  obtain⟨D,G⟩:=im.mp h;unfold insertNum;split
  ·rename_i q;refine im.mpr ⟨λ y aC=>?_,h⟩;rcases bN.mp aC with rfl|aC
   ·exact q
   ·exact oU q (D y aC)
  ·split
   ·exact h
   ·refine im.mpr ⟨λ y aC=>?_,QY G⟩;rcases FT.mp aC with rfl|aC
    ·omega
    ·exact D y aC
theorem FU:∀(l a:List Nat),a.Pairwise (· < ·)->(l.foldl (λ a n=>insertNum n a) a).Pairwise (· < ·)/\∀m,m∈l.foldl (λ a n=>insertNum n a) a↔m∈l\/m∈a
 |[],a,h=>⟨h,λ m=>by simp⟩
 |n::r,a,h=>by
  obtain⟨D,G⟩:=FU r (insertNum n a) (QY h);refine⟨D,λ m=>?_⟩;rw[tA,G m,FT,bN];constructor
  ·rintro(h|h|h)
   ·exact .inl (Or.inr h)
   ·exact .inl (Or.inl h)
   ·exact .inr h
  ·rintro((h|h)|h)
   ·exact .inr (Or.inl h)
   ·exact .inl h
   ·exact .inr (Or.inr h)
def sa (l):(sortNums l).Pairwise (· < ·):=(FU l [] List.Pairwise.nil).1
def pf:m∈sortNums l↔m∈l:=by have:=(FU l [] List.Pairwise.nil).2 m;show m∈l.foldl (λ a n=>insertNum n a) []↔m∈l;simpa using this
theorem xR:∀{l m:List Nat},l.Pairwise (· < ·)->m.Pairwise (· < ·)->(∀x,x∈l↔x∈m)->l=m
 |[],[],_,_,_=>rfl
 |[],y::m,_,_,h=>by have:=(h y).mpr cn;simp at this
 |x::l,[],_,_,h=>by have:=(h x).mp cn;simp at this
 |x::l,y::m,ah,hm,h=>by
  obtain⟨n0,pb⟩:=im.mp ah;obtain⟨o0,gq⟩:=im.mp hm;have e:x=y:=by
   rcases bN.mp ((h x).mp cn) with q|q;·exact q
   ·rcases bN.mp ((h y).mpr cn) with p|p
    ·exact p.symm
    ·have:=o0 x q;have:=n0 y p;omega
  subst e;rw[xR pb gq λ B=>?_];constructor
  ·intro hz;rcases bN.mp ((h B).mp (cu _ hz)) with q|q
   ·subst q;exact absurd (n0 B hz) (kc _)
   ·exact q
  ·intro hz;rcases bN.mp ((h B).mpr (cu _ hz)) with q|q
   ·subst q;exact absurd (o0 B hz) (kc _)
   ·exact q
def aap {m:List Nat}(h:m.Pairwise (· <= ·))(aB:m.Nodup):m.Pairwise (· < ·):=by
 induction m with
 |nil=>exact .nil
 |cons x r ih=>
  obtain⟨D,G⟩:=im.mp h;obtain⟨ca,cp⟩:=i6.mp aB;refine im.mpr ⟨λ y aC=>?_,ih G cp⟩;have:=D y aC;rcases Nat.lt_or_eq_of_le this with q|q
  ·exact q
  ·subst q;exact absurd aC ca
def aaq (ar:m.Perm l)(au:m.Pairwise (· <= ·))(aB:l.Nodup):m=sortNums l:=xR (aap au (ar.nodup_iff.mpr aB)) (sa l) λ _=>by rw[pf];exact ar.mem_iff
def aar (h:∀x∈l,x<j):sortNums (j::l)=sortNums l++[j]:=by
 refine xR (sa _) ?_ λ x=>?_
 ·refine tq.mpr ⟨sa l,⇑2,λ a az _ Y=>?_⟩;rw[dL.mp Y];exact h a (pf.mp az)
 ·rw[pf,eJ,pf];simp only[bN,kS,kT];exact Or.comm
def aas (h:∀x,x∈l↔x∈m):sortNums l=sortNums m:=xR (sa l) (sa m) λ x=>by rw[pf,pf];exact h x
def fq (l:List (Nat×Bytes))(goal:Bytes):List Nat:=
 match l[(l.takeWhile λ x=>x.2 !=goal).length]? with
 |some x=>(l.takeWhile λ x=>x.2 !=goal).map (·.1)++[x.1]
 |none=>[]
def sb (h:x.2=goal):fq (x::l) goal=[x.1]:=by
 have e:((x::l).takeWhile λ x=>x.2 !=goal)=[]:=by rw[NX];simp[h]
 unfold fq;rw[e];rfl
def sc (h:¬x.2=goal):fq (x::l) goal=if fq l goal=[] then[] else x.1::fq l goal:=by
 have e:((x::l).takeWhile λ x=>x.2 !=goal)=x::(l.takeWhile λ x=>x.2 !=goal):=by rw[NX];simp[h]
 unfold fq;rw[e];simp only[cJ,wu];cases l[(l.takeWhile λ x=>x.2 !=goal).length]? with
 |none=>rfl
 |some y=>simp
def FV (goal:Bytes):fq [] goal=[]:=rfl
theorem xS:∀{l:List (Nat×Bytes)}{goal:Bytes},fq l goal=[]↔¬goal∈l.map (·.2)
 |[],goal=>by simp[FV]
 |x::l,goal=>by
  by_cases h:x.2=goal;·rw[sb h];simp[h]
  ·rw[sc h];have ih:=xS (l:=l) (goal:=goal);rw[bU,bN];by_cases q:fq l goal=[]
   ·rw[aA q];exact⟨λ _=>λ m=>m.elim (λ B=>h B.symm) (ih.mp q),λ _=>rfl⟩
   ·rw[ay q];refine⟨λ B=>(oS _ _ B).elim,λ B=>?_⟩;exact absurd (ih.mpr λ m=>B (Or.inr m)) q
theorem QZ:∀{l R:List (Nat×Bytes)}{goal:Bytes},goal∈l.map (·.2)->fq (l++R) goal=fq l goal
 |[],_,_,h=>by simp at h
 |x::l,R,goal,h=>by
  by_cases q:x.2=goal;·rw[tu,sb q,sb q]
  ·have h':goal∈l.map (·.2):=by rw[bU,bN] at h;exact h.resolve_left λ B=>q B.symm
   rw[tu,sc q,sc q,QZ h']
theorem xT:∀{l:List (Nat×Bytes)}{goal:Bytes},∀n∈fq l goal,n∈l.map (·.1)
 |[],_,n,h=>by simp[FV] at h
 |x::l,goal,n,h=>by
  by_cases q:x.2=goal;·rw[sb q] at h;simp at h;simp[h]
  ·rw[sc q] at h;split at h
   ·simp at h
   ·rcases bN.mp h with rfl|h
    ·simp
    ·exact cu _ (xT n h)
theorem FW:∀{l:List (Nat×Bytes)}{goal:Bytes},(l.map (·.1)).Nodup->(fq l goal).Nodup
 |[],_,_=>by simp[FV]
 |x::l,goal,h=>by
  obtain⟨D,G⟩:=i6.mp h;by_cases q:x.2=goal;·rw[sb q];simp
  ·rw[sc q];split
   ·simp
   ·exact i6.mpr ⟨λ m=>D (xT _ m),FW G⟩
def aat (ls)(f)(h:¬a=b):wayTo (a7 ls f) (ls.length+1) a b=if fq (b' ls f a) b=[] then none else some (fq (b' ls f a) b):=by
 obtain⟨R,D,G⟩:=FS ls f a;have e:wayTo (a7 ls f) (ls.length+1) a b=if fq (climb (a7 ls f) (ls.length+1) a) b=[] then none else some (fq (climb (a7 ls f) (ls.length+1) a) b):=by
  unfold wayTo fq;rw[ay h];dsimp only;split;·rename_i x aa;rw[aa];simp
  ·rename_i aa;rw[aa];simp
 rw[e,D];by_cases q:b∈(b' ls f a).map (·.2);·rw[QZ q]
 ·have q1:=xS.mpr q;have bb:=xS.mpr λ m=>by
   rw[db,eJ] at m;rcases m with m|m
   ·exact q m
   ·obtain⟨x,aa,rfl⟩:=cd.mp m;rcases G x aa with B|B
    ·exact h B.symm
    ·exact q B
  rw[aA q1,aA bb]
def Q0 (h:¬a=b)(e:fq (b' ls f a) b=[]):¬c1 (a7 ls f) a b:=λ r=>by
 rcases QV r with q|q;·exact h q.symm
 ·exact xS.mp e q
theorem Q2:∀{l:List (Nat×Bytes)}{i:Nat}{x:Nat×Bytes},(l.map (·.2)).Nodup->l[i]?=some x->fq l x.2=(l.take (i+1)).map (·.1)
 |[],i,x,_,h=>by simp at h
 |y::l,0,x,_,h=>by
  have e:y=x:=by simpa using h
  subst e;rw[sb z];simp
 |y::l,i+1,x,aB,h=>by
  obtain⟨D,G⟩:=i6.mp aB;have aa:l[i]?=some x:=by simpa using h
  have q:¬y.2=x.2:=λ B=>D (cd.mpr ⟨x,gc aa,B.symm⟩);rw[sc q,Q2 G aa];have ek:(l.take (i+1)).map (·.1)≠[]:=by
   intro B;have:(l.take (i+1)).length=0:=by rw[<-be (f:=(·.1)),B];rfl
   have aj:=(c_.mp aa).1;rw[c5] at this;omega
  rw[ay ek];rfl
theorem Q3 {f:Bytes->Option (Nat×Bytes)}(aB:hC f):∀(n:Nat)(k:Bytes),(k::(climb f n k).map (·.2)).Nodup
 |0,k=>by simp[climb]
 |n+1,k=>by
  refine i6.mpr ⟨λ m=>?_,?_⟩
  ·obtain⟨x,aa,e⟩:=cd.mp m;exact aB k ⟨n+1,x,aa,e⟩
  ·cases e:f k with
   |none=>rw[r' f e];simp
   |some x=>rw[pe f e];exact Q3 aB n x.2
def FX (aB:hC (a7 ls 2))(k):(bF ls k).Nodup:=by have:=Q3 aB (ls.length+1) k;rw[A0 aB] at this;exact this
theorem Q4 {b:Bool}{h:Nat×Bool×Nat}(Y:h.2.1=b):∀(l before:List (Nat×Bool×Nat)),(∀y∈before,y.2.1=b)->
  contrary (h::before) l=(l.find? λ x=>x.2.1 !=b).map λ x=>(h,x)
 |[],_,_=>rfl
 |x::r,before,au=>by
  unfold contrary;by_cases q:x.2.1=b
  ·have e:(h::before).find? (λ y=>y.2.1 !=x.2.1)=none:=by
    rw[zG];intro y aC;rcases bN.mp aC with rfl|aC
    ·rw[Y,q];simp
    ·rw[au y aC,q];simp
   rw[e,io];have ao:(x.2.1 !=b)=false:=by rw[q];simp
   rw[ao];exact Q4 Y r (before++[x]) λ y aC=>by
    rcases eJ.mp aC with m|m;·exact au y m
    ·rw[dL.mp m];exact q
  ·have e:(h::before).find? (λ y=>y.2.1 !=x.2.1)=some h:=by
    rw[io];have:(h.2.1 !=x.2.1)=true:=by rw[Y];simpa using λ B=>q B.symm
    rw[this]
   rw[e,io];have ao:(x.2.1 !=b)=true:=by simpa using q
   rw[ao];rfl
def aau (h)(l):contrary [] (h::l)=(l.find? λ x=>x.2.1 !=h.2.1).map λ x=>(h,x):=by unfold contrary;exact Q4 z l [] λ _ aC=>by simp at aC
def gx:Nat->Nat
 |5=>4|6=>4|9=>4|11=>4|_=>1
def dR:Nat->Nat
 |2=>1|3=>2|4=>3|5=>1|6=>2|7=>2|8=>2|9=>3|10=>3|11=>4|_=>0
def ix (s:Sen):List (Bytes×Nat):=[(aF s,gx (ag s)),(aD s,dR (ag s))]
def h5 (e s:Sen):Bool:=(ix e).any λ x=>(ix s).any λ y=>x.1==y.1&&x.2 !=y.2
def A4 (h:cE s)(x):x∈parts s↔x∈ix s/\x.1≠[]:=by
 have az:=h.FP;have aT:=h.aD;cases s
 case kind k=>
  simp only[parts,ix,aF,aD,ag,gx,dR,bN,kS,kT] at *;constructor;·rintro rfl;exact⟨Or.inl z,az⟩
  ·rintro⟨rfl|rfl,G⟩
   ·rfl
   ·exact absurd z G
 all_goals
  (have Y:=AX (aT.resolve_left (by simp[ag]))
   simp only[parts,ix,aF,aD,ag,gx,dR,bN,kS,kT] at *;constructor
   ·rintro(rfl|rfl)
    ·first|exact⟨Or.inl rfl,az⟩|exact⟨Or.inr rfl,Y⟩
    ·first|exact⟨Or.inr rfl,Y⟩|exact⟨Or.inl rfl,az⟩
   ·rintro⟨rfl|rfl,G⟩
    ·first|exact .inl rfl|exact .inr rfl
    ·first|exact .inr rfl|exact .inl rfl)
def Q5 (h:cE s)(aa:x∈ix s)(e:x.1=[]):x.2=0:=by
 have az:=h.FP;have aT:=h.aD;unfold ix at aa;simp only[bN,kS,kT] at aa;rcases aa with rfl|rfl
 ·exact absurd e az
 ·rcases aT with q|q
  ·show dR (ag s)=0;rw[q];rfl
  ·exact absurd e (AX q)
def aav (a3:cE e)(au:cE s):h5 e s=unlikeParts (parts s) (parts e):=by
 rw[eW];unfold h5 unlikeParts;simp only[hS,dF,d_,rx];constructor
 ·rintro⟨x,aa,y,aC,D,G⟩;have ek:x.1≠[]:=λ B=>G (by rw[Q5 a3 aa B,Q5 au aC (by rw[<-D];exact B)]);exact⟨y,(A4 au y).mpr ⟨aC,by rw[<-D];exact ek⟩,x,(A4 a3 x).mpr ⟨aa,ek⟩,D.symm,λ B=>G B.symm⟩
 ·rintro⟨y,aC,x,aa,D,G⟩;exact⟨x,((A4 a3 x).mp aa).1,y,((A4 au y).mp aC).1,D.symm,λ B=>G B.symm⟩
def h6 (s:Sen):Nat:=if ag s=2 then 3 else if ag s=11 then 10 else 1
def uy {bO fH:Type}{a b:bO}[DecidableEq bO]{x y:fH}:(if a=b\/b=a then x else y)=if a=b then x else y:=by
 by_cases q:a=b;·rw[aA q,aA (Or.inl q)]
 ·rw[ay q,ay (λ B=>B.elim q λ e=>q e.symm)]
def Q6 {bO fH:Type}{a b:bO}[DecidableEq bO]{x y:fH}:(if a=b\/b=a then x else y)=if b=a then x else y:=by
 by_cases q:b=a;·rw[aA q,aA (Or.inr q)]
 ·rw[ay q,ay (λ B=>B.elim (λ e=>q e.symm) q)]
def aaw (h:cE s)(j:Nat):
  (if unlikeParts (parts s) (parts s)=true then some (1,[j]) else if alone s≠0 then some (alone s,[j]) else c)=if aF s=aD s then some (h6 s,[j]) else c:=by
 have az:=h.FP;cases s
 case kind k=>simp[unlikeParts,parts,alone,aF,aD,h6,ag] at az⊢;intro B;exact absurd B az
 all_goals
  simp[unlikeParts,parts,alone,aF,aD,h6,ag] at az⊢
 case under k l=>by_cases q:k=l<;>simp[q]
 case inside k l=>by_cases q:k=l<;>simp[q]
 case can a b=>rw[uy]
 case counts a b=>rw[uy]
 case isA a b=>rw[uy]
 case told a b _=>rw[uy]
 case every a b _=>rw[uy]
 case usual a b _=>rw[uy]
 case value a b _=>rw[Q6]
 case first a b _=>rw[Q6]
def dk (e s:Sen):Bool:=if ag e=ag s/\aF e=aF s then(if ag s=2\/ag s=5\/ag s=11 then aD e !=aD s else aD e==aD s&&bv e !=bv s) else false
def FY:Nat->Nat
 |2=>2|5=>4|6=>5|7=>6|8=>11|9=>8|10=>12|11=>9|_=>0
def ff (ls:Lines)(s:Sen):List Nat:=if ag s=2\/ag s=11 then fq (b' ls (ag s) (aD s)) (aF s) else[]
def hD (ls:Lines)(j:Nat)(s:Sen):Option (Nat×List Nat):=
 match bm (λ e=>dk e s) ls with
 |some i=>some (FY (ag s),[i.1,j])
 |none=>if ff ls s=[] then none else some (h6 s,sortNums (ff ls s)++[j])
theorem jh {p q:Sen->Bool}:∀{ls:Lines},(∀x∈ls,p x.2=q x.2)->bm p ls=bm q ls
 |[],_=>rfl
 |x::r,h=>by
  have ih:=jh (ls:=r) λ y aC=>h y (cu _ aC);have e:=h x cn;cases ar:p x.2 with
  |true=>rw[jU ar,jU (by rw[<-e];exact ar)]
  |false=>rw[kq ar,kq (by rw[<-e];exact ar),ih]
noncomputable def k5 (ls:Lines)(j:Nat)(s:Sen):Option (Nat×List Nat):=match s with
   |.under k l=>(match clashWith ls (λ u=>match u with
     |.under m n=>m==k&&n !=l
     |_=>false) with
    |some i=>some (2,[i,j])
    |none=>(wayTo (overOf ls) (ls.length+1) l k).map λ w=>(3,sortNums (j::w)))
   |.isA t k=>pair 4 j (clashWith ls λ u=>match u with
     |.isA v m=>v==t&&m !=k
     |_=>false)
   |.told t a yes=>pair 5 j (clashWith ls λ u=>match u with
     |.told v b qk=>v==t&&(b==a&&yes !=qk)
     |_=>false)
   |.every k a yes=>pair 6 j (clashWith ls λ u=>match u with
     |.every m b qk=>m==k&&(b==a&&yes !=qk)
     |_=>false)
   |.value p t n=>pair 8 j (clashWith ls λ u=>match u with
     |.value q v m=>q==p&&(v==t&&m !=n)
     |_=>false)
   |.inside t u=>(match clashWith ls (λ x=>match x with
     |.inside v o=>v==t&&o !=u
     |_=>false) with
    |some i=>some (9,[i,j])
    |none=>(wayTo (placeOf ls) (ls.length+1) u t).map λ w=>(10,sortNums (j::w)))
   |.usual k a yes=>pair 11 j (clashWith ls λ u=>match u with
     |.usual m b qk=>m==k&&(b==a&&yes !=qk)
     |_=>false)
   |.first p k n=>pair 12 j (clashWith ls λ u=>match u with
     |.first q m o=>q==p&&(m==k&&o !=n)
     |_=>false)
   |_=>none
def A5 (x y):(truth x !=truth y)=(y !=x):=by cases x<;>cases y<;>rfl
def Q7 {w:Nat}(sd:¬a=b)(a0:∀x∈ls,x.1<j):
  (wayTo (a7 ls f) (ls.length+1) a b).map (λ B=>(w,sortNums (j::B)))=if fq (b' ls f a) b=[] then none else some (w,sortNums (fq (b' ls f a) b)++[j]):=by
 rw[aat ls f sd];by_cases q:fq (b' ls f a) b=[];·rw[aA q,aA q];rfl
 ·rw[ay q,ay q,oQ,aar];intro x aa;obtain⟨y,aC,rfl⟩:=cd.mp (xT x aa);obtain⟨_,D,_⟩:=ux _ _ _ y aC;exact a0 _ D
def aax (a0:∀x∈ls,x.1<j)(au:¬aF s=aD s):k5 ls j s=hD ls j s:=by
 cases s
 case kind k=>
  have e:bm (λ e=>dk e (.kind k)) ls=none:=by rw[kt];intro x _;cases x.2<;>first|rfl|simp[dk,ag,aF,aD,bv]
  unfold k5 hD;rw[e];simp[ff,ag]
 case can k a=>
  have e:bm (λ e=>dk e (.can k a)) ls=none:=by rw[kt];intro x _;cases x.2<;>first|rfl|simp[dk,ag,aF,aD,bv]
  unfold k5 hD;rw[e];simp[ff,ag]
 case counts k a=>
  have e:bm (λ e=>dk e (.counts k a)) ls=none:=by rw[kt];intro x _;cases x.2<;>first|rfl|simp[dk,ag,aF,aD,bv]
  unfold k5 hD;rw[e];simp[ff,ag]
 case under k l=>
  unfold k5 hD;dsimp only;rw[lX,jh (q:=λ e=>dk e (.under k l)) λ x _=>?_]
  ·cases bm (λ e=>dk e (.under k l)) ls with
   |some i=>rfl
   |none=>simp only[zz];rw[AY,Q7 (a:=l) (b:=k) (λ B=>au B.symm) a0];simp[ff,ag,aD,aF,h6]
  ·cases x.2<;>first|rfl|simp[dk,ag,aF,aD,bv];rename_i m n;by_cases q:m=k<;>simp[q]
 case inside k l=>
  unfold k5 hD;dsimp only;rw[lX,jh (q:=λ e=>dk e (.inside k l)) λ x _=>?_]
  ·cases bm (λ e=>dk e (.inside k l)) ls with
   |some i=>rfl
   |none=>simp only[zz];rw[FQ,Q7 (a:=l) (b:=k) (λ B=>au B.symm) a0];simp[ff,ag,aD,aF,h6]
  ·cases x.2<;>first|rfl|simp[dk,ag,aF,aD,bv];rename_i m n;by_cases q:m=k<;>simp[q]
 case isA k l=>
  unfold k5 hD;dsimp only;rw[lX,jh (q:=λ e=>dk e (.isA k l)) λ x _=>?_]
  ·cases bm (λ e=>dk e (.isA k l)) ls with
   |some i=>rfl
   |none=>simp[ff,ag,pair]
  ·cases x.2<;>first|rfl|simp[dk,ag,aF,aD,bv];rename_i m n;by_cases q:m=k<;>simp[q]
 case told k a y=>
  unfold k5 hD;dsimp only;rw[lX,jh (q:=λ e=>dk e (.told k a y)) λ x _=>?_]
  ·cases bm (λ e=>dk e (.told k a y)) ls with
   |some i=>rfl
   |none=>simp[ff,ag,pair]
  ·cases x.2<;>first|rfl|simp[dk,ag,aF,aD,bv,A5];rename_i m n B;by_cases q:m=k<;>simp[q]
 case every k a y=>
  unfold k5 hD;dsimp only;rw[lX,jh (q:=λ e=>dk e (.every k a y)) λ x _=>?_]
  ·cases bm (λ e=>dk e (.every k a y)) ls with
   |some i=>rfl
   |none=>simp[ff,ag,pair]
  ·cases x.2<;>first|rfl|simp[dk,ag,aF,aD,bv,A5];rename_i m n B;by_cases q:m=k<;>simp[q]
 case usual k a y=>
  unfold k5 hD;dsimp only;rw[lX,jh (q:=λ e=>dk e (.usual k a y)) λ x _=>?_]
  ·cases bm (λ e=>dk e (.usual k a y)) ls with
   |some i=>rfl
   |none=>simp[ff,ag,pair]
  ·cases x.2<;>first|rfl|simp[dk,ag,aF,aD,bv,A5];rename_i m n B;by_cases q:m=k<;>simp[q]
 case value p t n=>
  unfold k5 hD;dsimp only;rw[lX,jh (q:=λ e=>dk e (.value p t n)) λ x _=>?_]
  ·cases bm (λ e=>dk e (.value p t n)) ls with
   |some i=>rfl
   |none=>simp[ff,ag,pair]
  ·cases x.2<;>first|rfl|simp[dk,ag,aF,aD,bv];rename_i q v m;by_cases ap:q=p<;>by_cases ao:v=t<;>simp[ap,ao]
 case first p t n=>
  unfold k5 hD;dsimp only;rw[lX,jh (q:=λ e=>dk e (.first p t n)) λ x _=>?_]
  ·cases bm (λ e=>dk e (.first p t n)) ls with
   |some i=>rfl
   |none=>simp[ff,ag,pair]
  ·cases x.2<;>first|rfl|simp[dk,ag,aF,aD,bv];rename_i q v m;by_cases ap:q=p<;>by_cases ao:v=t<;>simp[ap,ao]
def Q8 (p)(ls)(x):bm p (ls++[x])=(bm p ls).or (if p x.2=true then some x else none):=by
 unfold bm;rw[DQ];congr 1;rw[io];by_cases h:p x.2=true;·rw[h,aA z]
 ·rw[ay h];have:p x.2=false:=by simpa using h
  rw[this];rfl
def FZ (ls)(x)(f)(k):a7 (ls++[x]) f k=(a7 ls f k).or (if ag x.2=f/\aF x.2=k then some (x.1,aD x.2) else none):=by
 unfold a7;rw[Q8];cases bm (cg f k) ls with
 |some y=>rfl
 |none=>
  simp only[tB,zz];by_cases h:ag x.2=f/\aF x.2=k;·rw[aA (fK.mpr h),aA h];rfl
  ·rw[ay (λ B=>h (fK.mp B)),ay h];rfl
def aay (aB:hC f)(ax:f k=none)(F0:¬o=k)(ab:¬c1 f o k)(bL:∀a,g a=if a=k then some (j,o) else f a):hC g:=by
 have Q9:g k=some (j,o):=by rw[bL,aA z]
 have A6:∀{a},¬a=k->g a=f a:=λ {a} h=>by rw[bL,ay h]
 have aaz:∀{b a:Bytes},c1 g a b->(a=o\/c1 f o a)->c1 f a b:=by
  intro b a r;refine c1.AZ g (P:=λ a=>(a=o\/c1 f o a)->c1 f a b) (λ a x h e q=>?_) (λ a x h _ ih q=>?_) r
  ·have pg:¬a=k:=λ B=>by
    rcases q with q|q;·exact F0 (by rw[<-q];exact B)
    ·exact ab (by rw[<-B];exact q)
   rw[A6 pg] at h;rw[<-e];exact c1.one f h
  ·have pg:¬a=k:=λ B=>by
    rcases q with q|q;·exact F0 (by rw[<-q];exact B)
    ·exact ab (by rw[<-B];exact q)
   rw[A6 pg] at h;refine c1.cons f h (ih (Or.inr ?_));rcases q with q|q
   ·rw[<-q];exact c1.one f h
   ·exact q.trans f (c1.one f h)
 have aaA:∀{b a:Bytes},c1 g a b->c1 f a b\/((a=k\/c1 f a k)/\(b=o\/c1 f o b)):=by
  intro b a r;refine c1.AZ g (P:=λ a=>c1 f a b\/((a=k\/c1 f a k)/\(b=o\/c1 f o b))) (λ a x h e=>?_) (λ a x h eE ih=>?_) r
  ·by_cases pg:a=k
   ·subst pg;rw[Q9] at h;cases h;exact .inr ⟨Or.inl z,Or.inl e.symm⟩
   ·rw[A6 pg] at h;exact .inl (by rw[<-e];exact c1.one f h)
  ·by_cases pg:a=k
   ·subst pg;rw[Q9] at h;cases h;exact .inr ⟨Or.inl z,Or.inr (aaz eE (Or.inl z))⟩
   ·rw[A6 pg] at h;rcases ih with q|⟨q1,bb⟩
    ·exact .inl (c1.cons f h q)
    ·refine Or.inr ⟨Or.inr ?_,bb⟩;rcases q1 with q1|q1
     ·rw[<-q1];exact c1.one f h
     ·exact c1.cons f h q1
 intro m r;rcases aaA r with q|⟨q1,bb⟩
 ·exact aB m q
 ·rcases q1 with q1|q1<;>rcases bb with bb|bb
  ·exact F0 (by rw[<-q1,<-bb])
  ·exact ab (by rw[<-q1];exact bb)
  ·exact ab (by rw[<-bb];exact q1)
  ·exact ab (bb.trans f q1)
def Q_ (aB:hC (a7 ls f))(h:ag x.2=f->¬aF x.2=aD x.2/\¬c1 (a7 ls f) (aD x.2) (aF x.2)):hC (a7 (ls++[x]) f):=by
 by_cases aS:ag x.2=f
 ·cases e:a7 ls f (aF x.2) with
  |some y=>
   have:a7 (ls++[x]) f=a7 ls f:=by
    funext k;rw[FZ];by_cases q:ag x.2=f/\aF x.2=k;·rw[<-q.2,e];rfl
    ·rw[ay q,tC]
   rw[this];exact aB
  |none=>
   obtain⟨D,G⟩:=h aS;refine aay (j:=x.1) aB e (λ B=>D B.symm) G λ a=>?_;rw[FZ];by_cases q:a=aF x.2;·rw[aA q,q,e,aA ⟨aS,z⟩];rfl
   ·rw[ay q,ay (λ B=>q B.2.symm),tC]
 ·have:a7 (ls++[x]) f=a7 ls f:=by funext k;rw[FZ,ay (λ B=>aS B.1),tC]
  rw[this];exact aB
def Ra:hC (a7 [] f):=λ _ r=>by obtain⟨_,h,_⟩:=r.inv;cases h
structure Calm (ls:Lines):Prop where
 lY:hC (a7 ls 2)
 Rb:hC (a7 ls 11)
 one:∀x∈ls,∀y∈ls,ag x.2=5->ag y.2=5->aF x.2=aF y.2->aD x.2=aD y.2
 Rc:∀x∈ls,∀y∈ls,ag x.2=6->ag y.2=6->aF x.2=aF y.2->aD x.2=aD y.2->bv x.2=bv y.2
def aaB:Calm []:=⟨Ra,Ra,λ x aa=>by simp at aa,λ x aa=>by simp at aa⟩
def aaC (h:Calm ls)(au:¬aF s=aD s)(aT:hD ls j s=none):Calm (ls++[(j,s)]):=by
 have ak:∀x∈ls,dk x.2 s=false:=by
  unfold hD at aT;cases e:bm (λ e=>dk e s) ls with
  |some i=>rw[e] at aT;cases aT
  |none=>exact kt.mp e
 have ab:ff ls s=[]:=by
  unfold hD at aT;rw[kt.mpr ak] at aT;dsimp only at aT;by_cases q:ff ls s=[];·exact q
  ·rw[ay q] at aT;cases aT
 refine⟨Q_ h.lY λ aS=>⟨au,?_⟩,Q_ h.Rb λ aS=>⟨au,?_⟩,?_,?_⟩
 ·have aS:=aS;unfold ff at ab;rw[aA (Or.inl aS),aS] at ab;exact Q0 (λ B=>au B.symm) ab
 ·have aS:=aS;unfold ff at ab;rw[aA (Or.inr aS),aS] at ab;exact Q0 (λ B=>au B.symm) ab
 ·have key:∀x∈ls,ag x.2=5->ag s=5->aF x.2=aF s->aD x.2=aD s:=λ x aa D G an=>by have:=ak x aa;unfold dk at this;rw[aA ⟨D.trans G.symm,an⟩,aA (Or.inr (Or.inl G))] at this;simpa using this
  intro x aa y aC D G an;rcases eJ.mp aa with aa|aa<;>rcases eJ.mp aC with aC|aC
  ·exact h.one x aa y aC D G an
  ·rw[dL.mp aC] at G an⊢;exact key x aa D G an
  ·rw[dL.mp aa] at D an⊢;exact(key y aC G D an.symm).symm
  ·rw[dL.mp aa,dL.mp aC]
 ·have key:∀x∈ls,ag x.2=6->ag s=6->aF x.2=aF s->aD x.2=aD s->bv x.2=bv s:=λ x aa D G an aU=>by have:=ak x aa;unfold dk at this;rw[aA ⟨D.trans G.symm,an⟩,ay ⇑1,aU] at this;simpa using this
  intro x aa y aC D G an aU;rcases eJ.mp aa with aa|aa<;>rcases eJ.mp aC with aC|aC
  ·exact h.Rc x aa y aC D G an aU
  ·rw[dL.mp aC] at G an aU⊢;exact key x aa D G an aU
  ·rw[dL.mp aa] at D an aU⊢;exact(key y aC G D an.symm aU.symm).symm
  ·rw[dL.mp aa,dL.mp aC]
def eP (l:List Bytes):List Bytes:=l.foldl (λ a x=>if x∈a then a else a++[x]) []
def Rd (l)(x):eP (l++[x])=if x∈eP l then eP l else eP l++[x]:=by unfold eP;rw[N7];rfl
def aaD:x∈eP l↔x∈l:=by
 suffices H:∀(l a:List Bytes),x∈l.foldl (λ a x=>if x∈a then a else a++[x]) a↔x∈a\/x∈l by have:=H l [];simpa[eP] using this
 intro l;induction l with
 |nil=>intro a;simp
 |cons y r ih=>
  intro a;rw[tA,ih];by_cases h:y∈a
  ·rw[aA h,bN];constructor
   ·rintro(q|q)
    ·exact .inl q
    ·exact .inr (Or.inr q)
   ·rintro(q|q|q)
    ·exact .inl q
    ·rw[q];exact .inl h
    ·exact .inr q
  ·rw[ay h,eJ,bN,bN];simp only[kS,kT];exact or_assoc
def xU {fH:Type}(g:Bytes->Option fH)(l):(eP l).findSome? g=l.findSome? g:=by
 suffices H:∀(l a:List Bytes),(l.foldl (λ a x=>if x∈a then a else a++[x]) a).findSome? g=(a++l).findSome? g from H l [];intro l;induction l with
 |nil=>intro a;simp
 |cons y r ih=>
  intro a;rw[tA,ih];by_cases h:y∈a;·rw[aA h,show a++y::r=(a++[y])++r by simp,zB,zB (xs:=a++[y]),QW g a [y] λ x aa=>⟨y,h,by rw[dL.mp aa]⟩]
  ·rw[ay h];simp
def h7 (ls:Lines):List Bytes:=(ls.filter λ x=>ag x.2==5).map λ x=>aF x.2
def jV (ls:Lines):List Bytes:=(ls.filter λ x=>ag x.2==6||ag x.2==7).map λ x=>aD x.2
def h8 (ls:Lines)(t k:Bytes):Lines:=(ls.filter λ x=>cg 6 t x.2)++(bF ls k).flatMap λ m=>ls.filter λ x=>cg 7 m x.2
def gi (ls:Lines)(t k a:Bytes):Lines:=(h8 ls t k).filter λ x=>aD x.2==a
def iy (ls:Lines)(ku:Nat)(k:Bytes)(W:Lines):Option (List Nat):=match W with
 |[]=>none
 |h::r=>(r.find? λ x=>bv x.2 !=bv h.2).map λ x=>sortNums ([ku,h.1,x.1]++(if k=aF x.2 then[] else fq (b' ls 2 k) (aF x.2)))
def ph (ls:Lines)(t:Bytes):Option (List Nat):=match a7 ls 5 t with
 |none=>none
 |some x=>(eP (jV ls)).findSome? λ a=>iy ls x.1 x.2 (gi ls t x.2 a)
def d9 (ls:Lines):Option (List Nat):=(eP (h7 ls)).findSome? (ph ls)
def aaE (ls):qualities ls=jV ls:=by
 unfold qualities jV;induction ls with
 |nil=>rfl
 |cons x r ih=>obtain⟨_,s⟩:=x;rw[gd,g4];cases s<;>first|exact ih|(simp[ag,aD] at ih⊢;exact ih)
def yes (s:Sen):Bool:=bv s==1
def lZ (ls:Lines)(t k a:Bytes):List ((Nat×Sen)×Nat):=
 (ls.filter λ x=>cH 6 t a x.2).map (λ x=>(x,0))++
 (List.range (bF ls k).length).flatMap λ i=>match (bF ls k)[i]? with
  |some m=>(ls.filter λ x=>cH 7 m a x.2).map λ x=>(x,i)
  |none=>[]
theorem aaF {bO fH:Type}(h:bO->List fH):∀(l:List bO),((List.range l.length).flatMap λ i=>match l[i]? with
  |some m=>h m
  |none=>[])=l.flatMap h:=by
 intro l;induction l with
 |nil=>rfl
 |cons a r ih=>rw[cJ,DG,my,List.flatMap_map,my];simp only[List.getElem?_cons_zero,Nat.succ_eq_add_one,wu];rw[ih]
def xV (y):(truth y==1)=y:=by cases y<;>rfl
theorem aaG (ls:Lines)(t a):(ls.filterMap λ x=>match x.2 with
  |.told u b yes=>if u=t/\b=a then some (x.1,yes,0) else none
  |_=>none)=(ls.filter λ x=>cH 6 t a x.2).map λ x=>(x.1,yes x.2,0):=by
 induction ls with
 |nil=>rfl
 |cons x r ih=>
  obtain⟨n,s⟩:=x;rw[gd,g4];cases s<;>first|exact ih|simp[cH,ag,aF,aD,yes,bv] at ih⊢
  case told u b y=>
   by_cases q:u=t/\b=a;·simp[q,xV,bv,ih]
   ·rw[ay q,ay q];exact ih
theorem aaH (ls:Lines)(m a)(i:Nat):(ls.filterMap λ x=>match x.2 with
  |.every u b yes=>if u=m/\b=a then some (x.1,yes,i) else none
  |_=>none)=(ls.filter λ x=>cH 7 m a x.2).map λ x=>(x.1,yes x.2,i):=by
 induction ls with
 |nil=>rfl
 |cons x r ih=>
  obtain⟨n,s⟩:=x;rw[gd,g4];cases s<;>first|exact ih|simp[cH,ag,aF,aD,yes,bv] at ih⊢
  case every u b y=>
   by_cases q:u=m/\b=a;·simp[q,xV,bv,ih]
   ·rw[ay q,ay q];exact ih
def Rf (aB:hC (a7 ls 2))(t k a):definite ls t k a=(lZ ls t k a).map λ B=>(B.1.1,yes B.1.2,B.2):=by
 unfold definite lZ;rw[A3 aB,db,ht,DY];refine congr (congrArg HAppend.hAppend (aaG ls t a)) ?_;have hE:((0,k)::b' ls 2 k).length=(bF ls k).length:=by simp[bF]
 rw[hE];congr 1;funext i;have uz:(bF ls k)[i]?=((0,k)::b' ls 2 k)[i]?.map (·.2):=by
  cases i with
  |zero=>rfl
  |succ i=>simp[bF]
 rw[uz];cases ((0,k)::b' ls 2 k)[i]? with
 |none=>rfl
 |some y=>simp only[oQ];refine(aaH ls y.2 a i).trans ?_;rw[ht];rfl
def Rg (ls)(t k a):gi ls t k a=(lZ ls t k a).map (·.1):=by
 unfold gi h8 lZ;rw[lw,db,ht,NY,DY,<-aaF];congr 1
 ·rw[zH];rw[show((λ x:(Nat×Sen)×Nat=>x.1)∘λ x=>(x,0))=id from rfl,wT];congr 1;funext x;simp only[cH,cg];cases ag x.2==6<;>cases aF x.2==t<;>cases aD x.2==a<;>rfl
 ·congr 1;funext i;cases (bF ls k)[i]? with
  |none=>rfl
  |some m=>simp only;rw[zH,ht,show((λ x:(Nat×Sen)×Nat=>x.1)∘λ x=>(x,i))=id from rfl,wT];congr 1;funext x;simp only[cH,cg];cases ag x.2==7<;>cases aF x.2==m<;>cases aD x.2==a<;>rfl
def Rh (h:B∈lZ ls t k a):B.1∈ls/\aD B.1.2=a/\((ag B.1.2=6/\aF B.1.2=t/\B.2=0)\/(ag B.1.2=7/\(bF ls k)[B.2]?=some (aF B.1.2))):=by
 unfold lZ at h;rcases eJ.mp h with h|h
 ·obtain⟨x,aa,rfl⟩:=cd.mp h;obtain⟨D,G⟩:=dX.mp aa;obtain⟨a',a5,bn⟩:=h4.mp G;exact⟨D,bn,Or.inl ⟨a',a5,z⟩⟩
 ·obtain⟨i,_,aj⟩:=ro.mp h;cases e:(bF ls k)[i]? with
  |none=>rw[e] at aj;simp at aj
  |some m=>rw[e] at aj;obtain⟨x,aa,rfl⟩:=cd.mp aj;obtain⟨D,G⟩:=dX.mp aa;obtain⟨a',a5,bn⟩:=h4.mp G;exact⟨D,bn,Or.inr ⟨a',by rw[a5];exact e⟩⟩
def aaI (ls)(t k a):(lZ ls t k a).Pairwise λ x y=>x.2<=y.2/\(ag y.1.2=6->ag x.1.2=6):=by
 unfold lZ;refine tq.mpr ⟨?_,?_,?_⟩
 ·refine p0.mpr (zy (R:=λ _ _=>True) (λ {x y} aa aC _=>⟨bG _,λ _=>?_⟩) (Nz λ _ _=>trivial));exact(h4.mp (dX.mp aa).2).1
 ·refine List.pairwise_flatMap.mpr ⟨λ i _=>?_,?_⟩
  ·cases (bF ls k)[i]? with
   |none=>exact .nil
   |some m=>refine p0.mpr (zy (R:=λ _ _=>True) (λ {x y} aa aC _=>⟨bG _,λ gX=>?_⟩) (Nz λ _ _=>trivial));have:=(h4.mp (dX.mp aC).2).1;have gX:ag y.2=6:=gX;omega
  ·refine List.Pairwise.imp (λ {i j} F1 x aa y aC=>?_) DI;cases ap:(bF ls k)[i]? with
   |none=>rw[ap] at aa;simp at aa
   |some m=>
    cases ao:(bF ls k)[j]? with
    |none=>rw[ao] at aC;simp at aC
    |some cP=>rw[ap] at aa;rw[ao] at aC;obtain⟨F2,uk,rfl⟩:=cd.mp aa;obtain⟨Ri,xW,rfl⟩:=cd.mp aC;refine⟨nI F1,λ gX=>?_⟩;have:=(h4.mp (dX.mp xW).2).1;have gX:ag Ri.2=6:=gX;omega
 ·intro x aa y aC;obtain⟨F2,uk,rfl⟩:=cd.mp aa;obtain⟨i,_,aj⟩:=ro.mp aC;cases ao:(bF ls k)[i]? with
  |none=>rw[ao] at aj;simp at aj
  |some cP=>rw[ao] at aj;obtain⟨Ri,xW,rfl⟩:=cd.mp aj;exact⟨cQ _,λ _=>(h4.mp (dX.mp uk).2).1⟩
def aaJ (D:ag s=6\/ag s=7)(G:ag u=6\/ag u=7):(yes s !=yes u)=(bv s !=bv u):=by
 have key:∀v:Sen,(ag v=6\/ag v=7)->∃b,bv v=truth b:=by
  intro v ba;cases v<;>simp[ag] at ba;·exact⟨_,z⟩
  ·exact⟨_,z⟩
 obtain⟨b,Y⟩:=key s D;obtain⟨c,ak⟩:=key u G;unfold yes;rw[Y,ak,xV,xV,A5];cases b<;>cases c<;>rfl
theorem Rj {bO:Type}{p q:bO->Bool}:∀{l:List bO},(∀x∈l,p x=q x)->l.find? p=l.find? q
 |[],_=>rfl
 |x::r,h=>by rw[io,io,h x cn,Rj λ y aC=>h y (cu _ aC)]
def aaK (ak:Calm ls)(t k a)(ku):
  ((contrary [] (definite ls t k a)).map λ c=>sortNums (ku::c.1.1::c.2.1::(((chain ls k).drop 1).take (max c.1.2.2 c.2.2.2)).map λ y=>y.1))=iy ls ku k (gi ls t k a):=by
 rw[Rf ak.lY,Rg,A3 ak.lY];have aT:=aaI ls t k a;have hm:∀B∈lZ ls t k a,_:=λ B hz=>Rh hz;cases e:lZ ls t k a with
 |nil=>rfl
 |cons l0 F3=>
  rw[e] at aT hm;have A7:=hm l0 cn;obtain⟨aaL,_⟩:=im.mp aT;rw[bU,bU,aau,List.find?_map];unfold iy;dsimp only;rw[List.find?_map,D7,D7,D7];have A8:∀{B:(Nat×Sen)×Nat},(ag B.1.2=6/\aF B.1.2=t/\B.2=0)\/(ag B.1.2=7/\(bF ls k)[B.2]?=some (aF B.1.2))->ag B.1.2=6\/ag B.1.2=7:=λ {B} h=>h.elim (λ q=>Or.inl q.1) λ q=>Or.inr q.1;have gZ:F3.find? ((λ x=>x.2.1 !=(l0.1.1,yes l0.1.2,l0.2).2.1)∘λ B=>(B.1.1,yes B.1.2,B.2))=F3.find? ((λ x=>bv x.2 !=bv l0.1.2)∘λ x=>x.1):=by refine Rj λ B hz=>?_;have se:=hm B (cu _ hz);exact aaJ (A8 se.2.2) (A8 A7.2.2)
  rw[gZ];cases q:F3.find? ((λ x=>bv x.2 !=bv l0.1.2)∘λ x=>x.1) with
  |none=>rfl
  |some B=>
   simp only[oQ,Function.comp];have hz:=wt q;have hd:bv B.1.2≠bv l0.1.2:=by have:=wJ q;simpa using this
   have se:=hm B (cu _ hz);have lQ:=aaL B hz;rw[Nat.max_eq_right lQ.1];have m0:ag B.1.2=7/\(bF ls k)[B.2]?=some (aF B.1.2):=by
    rcases se.2.2 with h|h
    ·exfalso;have gX:=lQ.2 h.1;have aX:aF l0.1.2=t:=by
      rcases A7.2.2 with g|g;·exact g.2.1
      ·omega
     exact hd (ak.Rc _ se.1 _ A7.1 h.1 gX (h.2.1.trans aX.symm) (se.2.1.trans A7.2.1.symm))
    ·exact h
   have n3:=FX ak.lY k;congr 2;refine congrArg (λ q=>ku::l0.1.1::B.1.1::q) ?_;cases nY:B.2 with
   |zero=>
    rw[nY] at m0;have:k=aF B.1.2:=by have:=m0.2;simpa[bF] using this
    rw[aA this];rfl
   |succ i=>
    rw[nY] at m0;have jW:((b' ls 2 k).map (·.2))[i]?=some (aF B.1.2):=by have:=m0.2;simpa[bF] using this
    have qu:¬k=aF B.1.2:=λ g=>(i6.mp n3).1 (by have m:=gc jW;rw[<-g] at m;exact m);rw[ay qu];rw[d5] at jW;cases bz:(b' ls 2 k)[i]? with
    |none=>rw[bz] at jW;cases jW
    |some y=>rw[bz] at jW;have fe:=eV jW;rw[<-fe,Q2 (i6.mp n3).2 bz];rfl
def aaM (ak:Calm ls)(g:Nat->Bytes->Bytes->Option (List Nat))(bL:∀n m t k,(g n t k).isSome=(g m t k).isSome):
  ls.findSome? (λ x=>if ag x.2=5 then g x.1 (aF x.2) (aD x.2) else none)=(h7 ls).findSome? λ t=>match a7 ls 5 t with
   |none=>none
   |some x=>g x.1 t x.2:=by
 suffices H:∀(rest pre:Lines),ls=pre++rest->(∀y∈pre,(if ag y.2=5 then g y.1 (aF y.2) (aD y.2) else none)=none)->
   rest.findSome? (λ x=>if ag x.2=5 then g x.1 (aF x.2) (aD x.2) else none)=(h7 rest).findSome? λ t=>match a7 ls 5 t with
   |none=>none
   |some x=>g x.1 t x.2 from H ls [] z λ y aC=>by simp at aC
 intro rest;induction rest with
 |nil=>intro pre _ _;rfl
 |cons x rest ih=>
  intro pre e ar;have Rk:=ih (pre++[x]) (by rw[e];simp);rw[oN];by_cases bY:ag x.2=5
  ·have xX:h7 (x::rest)=aF x.2::h7 rest:=by unfold h7;rw[g4];simp[bY]
   rw[aA bY,xX,oN];have F4:x∈ls:=by rw[e];simp
   cases el:a7 ls 5 (aF x.2) with
   |none=>exfalso;unfold a7 at el;have el:=tl.mp el;have:=kt.mp el x F4;have q:=fK.mpr ⟨bY,z⟩;rw[q] at this;cases this
   |some y=>
    obtain⟨_,e',eZ,eh,fl,gH⟩:=uw el;have eP:=ak.one _ eh _ F4 fl bY gH;dsimp only;rw[eZ,eP];cases uz:g x.1 (aF x.2) (aD x.2) with
    |none=>
     have q:g y.1 (aF x.2) (aD x.2)=none:=by
      have:=bL y.1 x.1 (aF x.2) (aD x.2);rw[uz] at this;cases r:g y.1 (aF x.2) (aD x.2) with
      |none=>rfl
      |some _=>rw[r] at this;cases this
     rw[q];exact Rk λ B hz=>by
      rcases eJ.mp hz with hz|hz;·exact ar B hz
      ·rw[dL.mp hz,aA bY];exact uz
    |some r=>
     have aa:y.1=x.1:=by
      have Rl:bm (cg 5 (aF x.2)) pre=none:=kt.mpr λ B hz=>by
       cases q:cg 5 (aF x.2) B.2 with
       |false=>rfl
       |true=>
        exfalso;obtain⟨q1,bb⟩:=fK.mp q;have se:B∈ls:=by rw[e];exact rj _ hz
        have eF:=ak.one _ se _ F4 q1 bY bb;have:=ar B hz;rw[aA q1,bb,eF] at this;have G:=bL B.1 x.1 (aF x.2) (aD x.2);rw[this,uz] at G;cases G
      have:bm (cg 5 (aF x.2)) ls=some x:=by rw[e];unfold bm at Rl⊢;rw[DQ,Rl];exact jU (fK.mpr ⟨bY,z⟩)
      rw[e'] at this;have:=eV this;rw[<-this]
     rw[aa,uz]
  ·have xX:h7 (x::rest)=h7 rest:=by unfold h7;rw[g4];simp[bY]
   rw[ay bY,xX];exact Rk λ B hz=>by
    rcases eJ.mp hz with hz|hz;·exact ar B hz
    ·rw[dL.mp hz,ay bY]
def aaN {bO fH:Type}{f g:bO->Option fH}(h:∀a,(f a).isSome=(g a).isSome)(l:List bO):(l.findSome? f).isSome=(l.findSome? g).isSome:=by
 induction l with
 |nil=>rfl
 |cons x r ih=>
  rw[oN,oN];have:=h x;cases ap:f x with
  |none=>
   cases ao:g x with
   |none=>exact ih
   |some _=>rw[ap,ao] at this;cases this
  |some _=>
   cases ao:g x with
   |none=>rw[ap,ao] at this;cases this
   |some _=>rfl
def aaO (ls)(n m)(k)(W):(iy ls n k W).isSome=(iy ls m k W).isSome:=by
 cases W with
 |nil=>rfl
 |cons h r=>unfold iy;rw[pZ,pZ]
def aaP (ak:Calm ls):torn ls=d9 ls:=by
 have ap:torn ls=ls.findSome? λ x=>if ag x.2=5 then(jV ls).findSome? λ a=>iy ls x.1 (aD x.2) (gi ls (aF x.2) (aD x.2) a) else none:=by
  unfold torn;congr 1;funext x;obtain⟨n,s⟩:=x;cases s
  case isA t k=>refine Eq.trans ?_ (aA (rfl:ag (Sen.isA t k)=5)).symm;show(qualities ls).findSome? _=_;rw[aaE];congr 1;funext a;exact aaK ak t k a n
  all_goals exact(ay (λ B=>by simp[ag] at B)).symm
 rw[ap,aaM ak (λ n t k=>(jV ls).findSome? λ a=>iy ls n k (gi ls t k a)) λ n m t k=>aaN (λ a=>aaO ls n m k _) _];unfold d9;rw[xU];congr 1;funext t;unfold ph;cases a7 ls 5 t with
 |none=>rfl
 |some x=>dsimp only;rw[xU]
def jX (ls:Lines)(j:Nat)(s:Sen):Option (Nat×List Nat):=
 if aF s=aD s then some (h6 s,[j])
 else match bm (λ e=>h5 e s) ls with
 |some i=>some (1,[i.1,j])
 |none=>hD ls j s
def uA (ls:Lines)(j:Nat)(s:Sen):Option (Nat×List Nat):=match jX ls j s with
 |some c=>some c
 |none=>(d9 (ls++[(j,s)])).map λ l=>(7,l)
def sf:Lines->Lines->Option (Nat×List Nat)
 |_,[]=>none
 |before,x::r=>match uA before x.1 x.2 with
  |some c=>some c
  |none=>sf (before++[x]) r
def Rm (l:List Sen):Option (Nat×List Nat):=sf [] (⇑6 l)
def aaQ (ak:Calm ls)(a0:∀x∈ls,x.1<j)(ah:∀x∈ls,cE x.2)(au:cE s):clashAt ls j s=uA ls j s/\(uA ls j s=none->Calm (ls++[(j,s)])):=by
 have cD:clashAt ls j s=(if aF s=aD s then some (h6 s,[j]) else match clashWith ls λ u=>unlikeParts (parts s) (parts u) with
   |some i=>some (1,[i,j])
   |none=>match k5 ls j s with
    |some x=>some x
    |none=>(torn (ls++[(j,s)])).map λ l=>(7,l)):=aaw au j
 have ap:clashWith ls (λ u=>unlikeParts (parts s) (parts u))=(bm (λ e=>h5 e s) ls).map (·.1):=by rw[lX];congr 1;exact jh λ x aa=>(aav (ah x aa) au).symm
 rw[cD,ap];unfold uA jX;by_cases h:aF s=aD s
 ·rw[aA h,aA h];exact⟨z,λ B=>by cases B⟩
 ·rw[ay h,ay h];cases ao:bm (λ e=>h5 e s) ls with
  |some i=>exact⟨z,λ B=>by cases B⟩
  |none=>
   dsimp only[Option.map_none];rw[aax a0 h];cases bz:hD ls j s with
   |some c=>exact⟨z,λ B=>by cases B⟩
   |none=>have o1:=aaC ak h bz;exact⟨by rw[aaP o1],λ _=>o1⟩
theorem Rn:∀(rest before:Lines),Calm before->(∀x∈before,cE x.2)->(∀x∈rest,cE x.2)->(before++rest).Pairwise (λ x y=>x.1<y.1)->
  clashFrom before rest=sf before rest/\(sf before rest=none->Calm (before++rest))
 |[],before,ak,_,_,_=>⟨z,λ _=>by rw[hr];exact ak⟩
 |x::r,before,ak,Y,ab,ar=>by
  have a0:∀y∈before,y.1<x.1:=λ y aC=>(tq.mp ar).2.2 y aC x cn;obtain⟨D,G⟩:=aaQ ak a0 Y (ab x cn);unfold clashFrom sf;rw[D];cases e:uA before x.1 x.2 with
  |some c=>exact⟨z,λ B=>by cases B⟩
  |none=>
   have ih:=Rn r (before++[x]) (G e) (λ y aC=>by
    rcases eJ.mp aC with aC|aC;·exact Y y aC
    ·rw[dL.mp aC];exact ab x cn) (λ y aC=>ab y (cu _ aC)) (by rw[iL];exact ar)
   rw[iL] at ih;exact ih
theorem A9:∀(n:Nat)(l:List Sen),(numbered n l).Pairwise (λ x y=>x.1<y.1)/\∀x∈numbered n l,n<=x.1
 |_,[]=>⟨.nil,λ x aa=>by simp[numbered] at aa⟩
 |n,s::r=>by
  obtain⟨D,G⟩:=A9 (n+1) r;refine⟨im.mpr ⟨λ y aC=>?_,D⟩,λ x aa=>?_⟩;·have:=G y aC;show n<y.1;omega
  ·rcases bN.mp aa with rfl|aa
   ·exact bG _
   ·have:=G x aa;omega
def Ro (h:∀s∈l,cE s):∀x∈numbered n l,cE x.2:=λ x aa=>by refine h x.2 ?_;have:x.2∈(numbered n l).map (·.2):=cd.mpr ⟨x,aa,z⟩;rwa [QO] at this
def Rp (h:∀s∈l,cE s):clash l=Rm l/\(clash l=none->Calm (⇑6 l)):=by have:=Rn (⇑6 l) [] aaB (λ _ aa=>by simp at aa) (Ro h) (A9 1 l).1;refine⟨this.1,λ e=>this.2 ?_⟩;rw[<-this.1];exact e
def fU (ls:Lines)(k:Bytes):Bool:=(bm (cg 1 k) ls).isSome||(bm (cg 2 k) ls).isSome
def isLet (ls:Lines)(f:Nat)(k w:Bytes):Bool:=(bF ls k).any λ m=>(bm (cH f m w) ls).isSome
def d3 (ls:Lines)(t:Bytes):Bool:=(bm (cg 5 t) ls).isSome
def cV (ls:Lines)(t:Bytes):Bytes:=match a7 ls 5 t with
 |some x=>x.2
 |none=>[]
def qv (f:Nat):Nat:=if f=9\/f=10 then 4 else 3
def iz (ls:Lines)(s:Sen):Bool:=
 if ag s=1 then true
 else if ag s=2\/ag s=5 then fU ls (aD s)
 else if ag s=3\/ag s=4 then fU ls (aF s)
 else if ag s=11 then d3 ls (aF s)&&d3 ls (aD s)
 else if ag s=6\/ag s=9 then d3 ls (aF s)&&isLet ls (qv (ag s)) (cV ls (aF s)) (aD s)
 else fU ls (aF s)&&isLet ls (qv (ag s)) (aF s) (aD s)
def uB (p)(ls):(bm p ls).isSome=ls.any λ x=>p x.2:=by
 induction ls with
 |nil=>rfl
 |cons x r ih=>
  rw[jC];cases h:p x.2 with
  |true=>rw[jU h];rfl
  |false=>rw[kq h,ih];rfl
def F5 (ls)(k):isKind ls k=fU ls k:=by
 unfold isKind fU;rw[uB,uB];induction ls with
 |nil=>rfl
 |cons x r ih=>rw[jC,jC,jC,ih];obtain⟨_,s⟩:=x;cases s<;>first|rfl|(simp[cg,ag,aF]<;>ac_rfl)
def aaR (ls)(m a):lineOf ls (saysCan m a)=(bm (cH 3 m a) ls).map (·.1):=by unfold lineOf;rw[lX];congr 1;refine jh λ x _=>?_;cases x.2<;>first|rfl|simp[saysCan,cH,ag,aF,aD]
def aaS (ls)(m a):lineOf ls (saysCounts m a)=(bm (cH 4 m a) ls).map (·.1):=by unfold lineOf;rw[lX];congr 1;refine jh λ x _=>?_;cases x.2<;>first|rfl|simp[saysCounts,cH,ag,aF,aD]
def hi (ls:Lines)(f:Nat)(k w:Bytes):Option Nat:=(bF ls k).findSome? λ m=>(bm (cH f m w) ls).map (·.1)
def A_ (ls)(k a):canBe ls k a=hi ls 3 k a:=by unfold canBe upward hi;rw[A2 ls k λ m=>lineOf ls (saysCan m a)];congr 1;funext m;exact aaR ls m a
def A' (ls)(k a):hasNumber ls k a=hi ls 4 k a:=by unfold hasNumber upward hi;rw[A2 ls k λ m=>lineOf ls (saysCounts m a)];congr 1;funext m;exact aaS ls m a
def Ba {bO fH:Type}(g:bO->Option fH)(l:List bO):(l.findSome? g).isSome=l.any λ x=>(g x).isSome:=by
 induction l with
 |nil=>rfl
 |cons x r ih=>
  rw[oN,jC];cases g x with
  |none=>simpa using ih
  |some _=>rfl
def m1 (ls)(f)(k w):(hi ls f k w).isSome=isLet ls f k w:=by unfold hi isLet;rw[Ba];congr 1;funext m;rw[pZ]
def Rq (ls)(t):(kindOf ls t).isSome=d3 ls t:=by rw[uu];unfold a7 d3;rw[pZ]
def Rr (ls)(t)(f)(g:Bytes->Bool)(h:∀k,(f ls k).isSome=g k):thingCan ls t f=(d3 ls t&&g (cV ls t)):=by
 unfold thingCan d3 cV;rw[uu];unfold a7;cases bm (cg 5 t) ls with
 |none=>rfl
 |some x=>simp[h]
def aaT (ls)(s):founded ls s=iz ls s:=by
 cases s<;>simp only[founded,iz,ag,aF,aD,qv,F5,A_,A',m1,Rq]<;>simp
 case told t a y=>exact Rr ls t (λ ls k=>hi ls 3 k a) (λ k=>isLet ls 3 k a) λ k=>m1 ls 3 k a
 case value p t n=>exact Rr ls t (λ ls k=>hi ls 4 k p) (λ k=>isLet ls 4 k p) λ k=>m1 ls 4 k p
def m2 (l:List Sen):List Nat:=((⇑6 l).filter λ x=> !iz (⇑6 l) x.2).map (·.1)
def Bb (l):lacking l=m2 l:=by unfold lacking m2;congr 2;funext x;rw[aaT]
theorem k6 (sep):∀l:Bytes,split sep l≠[]
 |[]=>by simp[split]
 |c::r=>by
  unfold split;split;·simp
  ·split<;>simp
def qw (r):split sep (sep::r)=[]::split sep r:=by rw[split,aA z]
def pi (h:¬c=sep)(e:split sep r=l::ls):split sep (c::r)=(c::l)::ls:=by rw[split,ay h,e]
theorem Rs {sep:Nat}:∀{w:Bytes}(r:Bytes),¬sep∈w->split sep (w++sep::r)=w::split sep r
 |[],r,_=>qw r
 |c::w,r,h=>by have D:¬c=sep:=λ B=>h (by rw[B];exact cn);have G:¬sep∈w:=λ B=>h (cu _ B);rw[tu];exact pi D (Rs r G)
theorem Rt {sep:Nat}:∀{w:Bytes},¬sep∈w->split sep w=[w]
 |[],_=>rfl
 |c::w,h=>by have D:¬c=sep:=λ B=>h (by rw[B];exact cn);have G:¬sep∈w:=λ B=>h (cu _ B);exact pi D (Rt G)
theorem xY:∀{S:List Bytes},S≠[]->(∀w∈S,¬ 32∈w)->split 32 (spaced S)=S
 |[],h,_=>absurd z h
 |[w],_,h=>Rt (h w cn)
 |w::v::r,_,h=>by show split 32 (w++32::spaced (v::r))=_;rw[Rs _ (h w cn),xY ⇑2 λ x aa=>h x (cu _ aa)]
def aaU {S T:List Bytes}(a8:S≠[])(aM:T≠[])(D:∀w∈S,¬ 32∈w)(G:∀w∈T,¬ 32∈w)(e:spaced S=spaced T):S=T:=by rw[<-xY a8 D,<-xY aM G,e]
theorem split_free {sep:Nat}:∀(l:Bytes),∀w∈split sep l,¬sep∈w
 |[],w,h=>by simp[split] at h;subst h;simp
 |c::r,w,h=>by
  by_cases q:c=sep
  ·subst q;rw[qw] at h;rcases bN.mp h with rfl|h
   ·simp
   ·exact split_free r w h
  ·cases e:split sep r with
   |nil=>exact absurd e (k6 sep r)
   |cons l ls=>
    rw[pi q e] at h;have ih:=split_free (sep:=sep) r;rw[e] at ih;rcases bN.mp h with rfl|h
    ·intro m;rcases bN.mp m with m|m
     ·exact q m.symm
     ·exact ih l cn m
    ·exact ih w (cu _ h)
def sign (c:Nat):Bool:=c==32||c==45||c==46||(decide (48<=c)&&decide (c<=57))||(decide (97<=c)&&decide (c<=122))
def f2 (c:Nat):Nat:=if sign c=true then c else 63
def bd (b:Bytes):Bytes:=b.map f2
def xZ (d)(hd:sign d=true):f2 c=d↔c=d:=by
 unfold f2;constructor
 ·intro h;by_cases q:sign c=true
  ·rw[aA q] at h;exact h
  ·rw[ay q] at h;subst h;exact absurd hd ⇑0
 ·intro h;subst h;rw[aA hd]
def aaV (h:sign c=true):f2 c=c:=aA h
theorem Ru:∀l:Bytes,split 32 (bd l)=(split 32 l).map bd
 |[]=>rfl
 |c::r=>by
  have ih:=Ru r;show split 32 (f2 c::bd r)=_;by_cases q:c=32
  ·have:f2 c=32:=(xZ 32 ⇑0).mpr q;rw[this,q,qw,qw,ih];rfl
  ·have h:¬f2 c=32:=λ B=>q ((xZ 32 ⇑0).mp B);cases e:split 32 r with
   |nil=>exact absurd e (k6 32 r)
   |cons l ls=>rw[e] at ih;rw[pi h (by rw[ih];rfl),pi q e];rfl
def Bc (h:∀c∈b,sign c=true):bd b=b:=by unfold bd;rw[mu λ c ak=>aaV (h c ak),List.map_id']
def x0 (hw:∀c∈w,sign c=true):bd b=w↔b=w:=by
 constructor
 ·intro h;induction b generalizing w with
  |nil=>exact h
  |cons c r ih=>
   cases w with
   |nil=>cases h
   |cons d w=>
    have h:=h;injection h with D G
    rw[(xZ d (hw d cn)).mp D,ih (λ x aa=>hw x (cu _ aa)) G]
 ·intro h;subst h;exact Bc hw
def aaW (h:97<=c/\c<=122):sign c=true:=by simp[sign];omega
def aaX (h:isDigit c=true):sign c=true:=by simp[sign,isDigit] at *;omega
def aaY (c):(decide (97<=f2 c)&&decide (f2 c<=122))=(decide (97<=c)&&decide (c<=122)):=by
 unfold f2;by_cases q:sign c=true;·rw[aA q]
 ·rw[ay q];simp[sign] at q;rw[eW];simp;omega
def aaZ (c):isDigit (f2 c)=isDigit c:=by
 unfold f2;by_cases q:sign c=true;·rw[aA q]
 ·rw[ay q];simp[sign] at q;rw[eW];simp[isDigit];omega
def Bd:∀w∈RESERVED,∀c∈w,sign c=true:=by decide
def aa0 (b):RESERVED.contains (bd b)=RESERVED.contains b:=by
 rw[eW];simp only[nA];constructor;·intro h;have:=(x0 (b:=b) (Bd _ h)).mp z;rw[this];exact h
 ·intro h;rw[Bc (Bd b h)];exact h
def aa1 (b):isName (bd b)=isName b:=by
 unfold isName;rw[aa0];have ap:(bd b).length=b.length:=by simp[bd]
 have ao:(bd b).all (λ c=>decide (97<=c)&&decide (c<=122))=b.all λ c=>decide (97<=c)&&decide (c<=122):=by unfold bd;rw[ru];congr 1;funext c;exact aaY c
 rw[ap,ao]
def F6 (h:isName b=true):∀c∈b,sign c=true:=by intro c ak;simp only[isName,dF,hq,fG] at h;exact aaW (h.2.2.1 c ak)
def eQ (h:isName b=true):bd b=b:=Bc (F6 h)
def Rv (h:isName b=true):RESERVED.contains b=false:=by simp only[isName,dF,oP] at h;exact h.2.2.2
def Rw (b)(d)(hd:sign d=true):((bd b).head? ==some d)=(b.head? ==some d):=by
 cases b with
 |nil=>rfl
 |cons c r=>show(some (f2 c)==some d)=(some c==some d);rw[eW];simp only[d_,Option.some.injEq];exact xZ d hd
def aa2 (l)(h:l.all isDigit=true):bd l=l:=Bc λ c ak=>aaX (hq.mp h c ak)
def F7 (b):number (bd b)=number b:=by
 have ap:=Rw b 45 ⇑0;have ao:(if (b.head? ==some 45)=true then(bd b).drop 1 else bd b)=bd (if (b.head? ==some 45)=true then b.drop 1 else b):=by
  split;·unfold bd;rw[D_]
  ·rfl
 unfold number;rw[ap];dsimp only;rw[ao];generalize (if (b.head? ==some 45)=true then b.drop 1 else b)=d;have bz:(bd d).isEmpty=d.isEmpty:=by cases d<;>rfl
 have fe:(bd d).all isDigit=d.all isDigit:=by unfold bd;rw[ru];congr 1;funext c;exact aaZ c
 have fT:(bd d).length=d.length:=by simp[bd]
 rw[bz,fe,fT,Rw d 48 ⇑0];split;·rfl
 ·rename_i h;have:d.all isDigit=true:=by
   cases q:d.all isDigit with
   |true=>rfl
   |false=>rw[q] at h;simp at h
  rw[aa2 d this]
def aa3 (h:(number b).isSome=true):(if (b.head? ==some 45)=true then b.drop 1 else b).all isDigit=true:=by
 unfold number at h;dsimp only at h;generalize (if (b.head? ==some 45)=true then b.drop 1 else b)=d at h⊢;cases r:d.all isDigit with
 |true=>rfl
 |false=>rw[r] at h;simp at h
def kv:Bytes:=ascii "ABOUT"
def jY:Bytes:=ascii "OTHER"
def kx:Bytes:=ascii "SAID"
noncomputable def c9:List (Nat×Int×List Bytes):=[
 (1,1,[ascii "ABOUT",ascii "is",ascii "a",ascii "kind"]),
 (2,1,[ascii "ABOUT",ascii "is",ascii "a",ascii "kind",ascii "of",ascii "OTHER"]),
 (3,1,[ascii "ABOUT",ascii "can",ascii "be",ascii "OTHER"]),
 (4,1,[ascii "ABOUT",ascii "has",ascii "a",ascii "number",ascii "OTHER"]),
 (5,1,[ascii "ABOUT",ascii "is",ascii "a",ascii "OTHER"]),
 (6,1,[ascii "ABOUT",ascii "is",ascii "OTHER"]),
 (6,0,[ascii "ABOUT",ascii "is",ascii "not",ascii "OTHER"]),
 (7,1,[ascii "every",ascii "ABOUT",ascii "is",ascii "OTHER"]),
 (7,0,[ascii "every",ascii "ABOUT",ascii "is",ascii "not",ascii "OTHER"]),
 (8,1,[ascii "usually",ascii "every",ascii "ABOUT",ascii "is",ascii "OTHER"]),
 (8,0,[ascii "usually",ascii "every",ascii "ABOUT",ascii "is",ascii "not",ascii "OTHER"]),
 (9,1,[ascii "the",ascii "OTHER",ascii "of",ascii "ABOUT",ascii "is",ascii "SAID"]),
 (10,1,[ascii "the",ascii "OTHER",ascii "of",ascii "every",ascii "ABOUT",ascii "is",ascii "usually",ascii "SAID"]),
 (11,1,[ascii "ABOUT",ascii "is",ascii "in",ascii "OTHER"])]
def sg (s:Bytes):Bytes:=if s=kv\/s=jY then ascii "N" else if s=kx then ascii "#" else s
def l1 (s w:Bytes):Bool:=if s=kv\/s=jY then isName w else if s=kx then(number w).isSome else s==w
def hF (sl ws:List Bytes):Bool:=decide (sl.length=ws.length)&&(sl.zip ws).all λ p=>l1 p.1 p.2
def sw (w:Bytes):Bytes:=shape (wordOf w)
def F8 (h:∀c∈b,97<=c)(aX:b≠[]):number b=none:=by
 cases e:number b with
 |none=>rfl
 |some n=>
  have hd:=aa3 (b:=b) (by rw[e];rfl);cases b with
  |nil=>exact absurd z aX
  |cons c r=>
   have ak:=h c cn;have aB:((c::r).head? ==some 45)=false:=by
    have:¬c=45:=by omega
    simpa using this
   rw[aB,ay eo] at hd;have:=hq.mp hd c cn;simp[isDigit] at this;omega
def Rx:∀w∈RESERVED,(∀c∈w,97<=c)/\w≠[]:=by decide
def Ry (h:isName b=true):number b=none:=by refine F8 (λ c ak=>?_) (AX h);simp only[isName,dF,hq,fG] at h;exact(h.2.2.1 c ak).1
def x1 (h:RESERVED.contains w=true):wordOf w=.key w:=by unfold wordOf;rw[aA h]
def x2 (h:isName w=true):wordOf w=.name w:=by unfold wordOf;rw[ay (by rw[Rv h];exact eo),aA h]
theorem x3 (D:RESERVED.contains w=false)(G:isName w=false):wordOf w=match number w with
  |some n=>.num n
  |none=>.bad:=by
 unfold wordOf;rw[ay (by rw[D];exact eo),ay (by rw[G];exact eo)];cases number w<;>rfl
def Rz (w):sw w=ascii "N"↔isName w=true:=by
 unfold sw;cases h:RESERVED.contains w with
 |true=>
  rw[x1 h];constructor
  ·intro e;have e:=e;subst e;exact absurd h ⇑0
  ·intro e;rw[Rv e] at h;cases h
 |false=>
  cases G:isName w with
  |true=>rw[x2 G];simp[shape]
  |false=>
   rw[x3 h G];cases number w with
   |some n=>simp only[shape];constructor<;>intro e<;>exact absurd e ⇑0
   |none=>simp only[shape];constructor<;>intro e<;>exact absurd e ⇑0
def RA (w):sw w=ascii "#"↔(number w).isSome=true:=by
 unfold sw;cases h:RESERVED.contains w with
 |true=>
  rw[x1 h];have hm:w∈RESERVED:=by simpa using h
  obtain⟨a',a5⟩:=Rx w hm;rw[F8 a' a5];constructor
  ·intro e;have e:=e;subst e;exact absurd h ⇑0
  ·intro e;cases e
 |false=>
  cases G:isName w with
  |true=>rw[x2 G,Ry G];simp only[shape];constructor<;>intro e<;>exact absurd e ⇑0
  |false=>
   rw[x3 h G];cases number w with
   |some n=>simp[shape]
   |none=>simp only[shape];constructor<;>intro e<;>exact absurd e ⇑0
def F9:¬ascii "N"∈RESERVED/\¬ascii "#"∈RESERVED/\¬([]:Bytes)∈RESERVED:=by decide
def RB (au:s∈RESERVED)(w):sw w=s↔s=w:=by
 unfold sw;have ak:RESERVED.contains s=true:=by simpa using au
 cases h:RESERVED.contains w with
 |true=>rw[x1 h];exact⟨λ e=>e.symm,λ e=>e.symm⟩
 |false=>
  have hw:¬s=w:=λ e=>by subst e;rw[ak] at h;cases h
  cases G:isName w with
  |true=>rw[x2 G];exact⟨λ e=>absurd (by rw[show ascii "N"=s from e];exact au) F9.1,λ e=>absurd e hw⟩
  |false=>
   rw[x3 h G];cases number w with
   |some n=>exact⟨λ e=>absurd (by rw[show ascii "#"=s from e];exact au) F9.2.1,λ e=>absurd e hw⟩
   |none=>exact⟨λ e=>absurd (by rw[show([]:Bytes)=s from e];exact au) F9.2.2,λ e=>absurd e hw⟩
def Be (s:Bytes):Bool:=s==kv||s==jY||s==kx||RESERVED.contains s
def F_:∀sh∈c9,∀s∈sh.2.2,Be s=true:=by decide
def aa4 (au:Be s=true)(w):l1 s (bd w)=(sw w==sg s):=by
 rw[eW,d_];unfold l1 sg;by_cases D:s=kv\/s=jY;·rw[aA D,aA D,aa1,Rz]
 ·rw[ay D,ay D];by_cases G:s=kx
  ·rw[aA G,aA G,F7,RA]
  ·rw[ay G,ay G];have hm:s∈RESERVED:=by
    simp only[Be,jB,d_,nA] at au;rcases au with ((h|h)|h)|h
    ·exact absurd (Or.inl h) D
    ·exact absurd (Or.inr h) D
    ·exact absurd h G
    ·exact h
   rw[RB hm,d_];constructor;·intro e;exact((x0 (Bd s hm)).mp e.symm).symm
   ·intro e;exact((x0 (Bd s hm)).mpr e.symm).symm
theorem Bf:∀{sl:List Bytes}(ws:List Bytes),(∀s∈sl,Be s=true)->hF sl (ws.map bd)=(ws.map sw==sl.map sg)
 |[],[],_=>rfl
 |[],w::ws,_=>by simp[hF]
 |s::sl,[],_=>by simp[hF]
 |s::sl,w::ws,h=>by
  have ih:=Bf (sl:=sl) ws λ x aa=>h x (cu _ aa);have aS:=aa4 (h s cn) w;rw[eW] at ih aS⊢;simp only[hF,dF,fG,d_,bU,cJ,List.zip_cons_cons,tD,List.cons.injEq,Nat.add_right_cancel_iff] at ih aS⊢;constructor;·rintro⟨a,b,c⟩;exact⟨aS.mp b,ih.mp ⟨a,c⟩⟩
  ·rintro⟨a,b⟩;exact⟨(ih.mpr b).1,aS.mpr a,(ih.mpr b).2⟩
def aa5:PATTERNS=c9.map λ sh=>spaced (sh.2.2.map sg):=by decide+kernel
def RC:∀sh∈c9,(∀w∈sh.2.2.map sg,¬ 32∈w/\w≠[])/\sh.2.2≠[]:=by decide+kernel
def aa6 (h:¬ 32∈w):¬ 32∈sw w:=by
 unfold sw;cases D:RESERVED.contains w with
 |true=>rw[x1 D];exact h
 |false=>
  cases G:isName w with
  |true=>rw[x2 G];show ¬ 32∈ascii "N";decide
  |false=>
   rw[x3 D G];cases number w with
   |some n=>show ¬ 32∈ascii "#";decide
   |none=>show ¬ 32∈[];simp
def aa7 {bO fH:Type}(f)(p:fH->Bool)(l:List bO):(l.map f).findIdx p=l.findIdx (p∘f):=by
 induction l with
 |nil=>rfl
 |cons x r ih=>rw[bU,rn,rn,ih];rfl
theorem RD {bO:Type}{p q:bO->Bool}:∀{l:List bO},(∀x∈l,p x=q x)->l.findIdx p=l.findIdx q
 |[],_=>rfl
 |x::r,h=>by rw[rn,rn,h x cn,RD λ y aC=>h y (cu _ aC)]
def place (ws:List Bytes):Nat:=c9.findIdx λ sh=>hF sh.2.2 (ws.map bd)
def aa8 (aX:ws≠[])(D:∀w∈ws,¬ 32∈w):PATTERNS.findIdx (λ p=>p==spaced (ws.map sw))=place ws:=by
 unfold place;rw[aa5,aa7];refine RD λ sh ji=>?_;rw[Bf ws (F_ sh ji),eW];simp only[Function.comp,d_];obtain⟨a',a5⟩:=RC sh ji;constructor
 ·intro e;refine aaU ↥aX ↥a5 (λ w hw=>?_) (λ w hw=>(a' w hw).1) e.symm;obtain⟨v,ba,rfl⟩:=cd.mp hw;exact aa6 (D v ba)
 ·intro e;rw[e]
def kk (sl ws:List Bytes)(s:Bytes):Option Bytes:=(sl.zip ws).lookup s
structure Reads (sh:Nat×Int×List Bytes)(ws:List Bytes)(s:Sen):Prop where
 RE:cE s
 aa9:sh.1=ag s
 about:kk sh.2.2 ws kv=some (aF s)
 other:(kk sh.2.2 ws jY).getD []=aD s
 aba:(kk sh.2.2 ws kx=none/\sh.2.1=bv s)\/∃w,kk sh.2.2 ws kx=some w/\number w=some (bv s)
def dr (au:s∈RESERVED)(h:sw w=s):w=s/\wordOf w=.key s:=by have e:=((RB au w).mp h).symm;exact⟨e,by rw[e];exact x1 ↥au⟩
def f4 (h:sw w=ascii "N"):isName w=true/\wordOf w=.name w:=by have e:=(Rz w).mp h;exact⟨e,x2 e⟩
def RF (h:sw w=ascii "#"):∃n,number w=some n/\wordOf w=.num n:=by
 have e:=(RA w).mp h;obtain⟨n,aB⟩:=jy.mp e;refine⟨n,aB,?_⟩;have D:RESERVED.contains w=false:=by
  cases q:RESERVED.contains w with
  |false=>rfl
  |true=>
   have hm:w∈RESERVED:=by simpa using q
   obtain⟨a',a5⟩:=Rx w hm;rw[F8 a' a5] at aB;cases aB
 have G:isName w=false:=by
  cases q:isName w with
  |false=>rfl
  |true=>rw[Ry q] at aB;cases aB
 rw[x3 D G,aB]
def Bg (h:number w=some n): -1000000000<=n/\n<=1000000000:=by
 unfold number at h;dsimp only at h;generalize (if (w.head? ==some 45)=true then w.drop 1 else w)=d at h;split at h;·cases h
 ·split at h
  ·cases h
  ·rename_i q;have q:¬(1000000000:Int)<((d.foldl (λ n c=>10 * n+(c - 48)) 0:Nat):Int):=q;have e:=eV h;split at e<;>omega
def abb {ws:List Bytes}(fr:ws.map sw=[ascii "N",ascii "is",ascii "a",ascii "kind"]):∃s,senOf 0 (names (ws.map wordOf)) (nums (ws.map wordOf))=some s/\Reads (1,1,[ascii "ABOUT",ascii "is",ascii "a",ascii "kind"]) (ws.map bd) s:=by
 obtain⟨cB,_,fs,aX,a'⟩:=cA.mp fr;subst fs;obtain⟨cC,_,dp,D,a5⟩:=cA.mp a';subst dp;obtain⟨cz,_,dS,G,bn⟩:=cA.mp a5;subst dS;obtain⟨cF,_,fD,an,cx⟩:=cA.mp bn;subst fD;obtain e:=i5.mp cx;subst e
 ·obtain⟨ec,cD⟩:=f4 aX;obtain⟨ca,ap⟩:=dr ⇑0 D;obtain⟨cp,ao⟩:=dr ⇑0 G;obtain⟨dN,bz⟩:=dr ⇑0 an;refine⟨.kind cB,?_,?_⟩
  ·simp only[bU,dc,cD,ap,ao,bz,names,nums,gd,kb];rfl
  ·have bl:[cB,cC,cz,cF].map bd=[cB,cC,cz,cF]:=by simp only[bU,dc];rw[eQ ec,show bd cC=cC by rw[ca];decide,show bd cz=cz by rw[cp];decide,show bd cF=cF by rw[dN];decide]
   rw[bl];exact⟨⟨ec,Or.inl z,by show(-1000000000:Int)<=1;decide,by show(1:Int)<=1000000000;decide⟩,z,z,z,Or.inl ⟨z,z⟩⟩
def abc {ws:List Bytes}(fr:ws.map sw=[ascii "N",ascii "is",ascii "a",ascii "kind",ascii "of",ascii "N"]):∃s,senOf 1 (names (ws.map wordOf)) (nums (ws.map wordOf))=some s/\Reads (2,1,[ascii "ABOUT",ascii "is",ascii "a",ascii "kind",ascii "of",ascii "OTHER"]) (ws.map bd) s:=by
 obtain⟨cB,_,fs,aX,a'⟩:=cA.mp fr;subst fs;obtain⟨cC,_,dp,D,a5⟩:=cA.mp a';subst dp;obtain⟨cz,_,dS,G,bn⟩:=cA.mp a5;subst dS;obtain⟨cF,_,fD,an,cx⟩:=cA.mp bn;subst fD;obtain⟨fg,_,hj,aU,g0⟩:=cA.mp cx;subst hj;obtain⟨hA,_,l2,bY,pj⟩:=cA.mp g0;subst l2;obtain e:=i5.mp pj;subst e
 ·obtain⟨ec,cD⟩:=f4 aX;obtain⟨ca,ap⟩:=dr ⇑0 D;obtain⟨cp,ao⟩:=dr ⇑0 G;obtain⟨dN,bz⟩:=dr ⇑0 an;obtain⟨iV,fe⟩:=dr ⇑0 aU;obtain⟨jN,fT⟩:=f4 bY;refine⟨.under cB hA,?_,?_⟩
  ·simp only[bU,dc,cD,ap,ao,bz,fe,fT,names,nums,gd,kb];rfl
  ·have bl:[cB,cC,cz,cF,fg,hA].map bd=[cB,cC,cz,cF,fg,hA]:=by simp only[bU,dc];rw[eQ ec,eQ jN,show bd cC=cC by rw[ca];decide,show bd cz=cz by rw[cp];decide,show bd cF=cF by rw[dN];decide,show bd fg=fg by rw[iV];decide]
   rw[bl];exact⟨⟨ec,Or.inr jN,by show(-1000000000:Int)<=1;decide,by show(1:Int)<=1000000000;decide⟩,z,z,z,Or.inl ⟨z,z⟩⟩
def abd {ws:List Bytes}(fr:ws.map sw=[ascii "N",ascii "can",ascii "be",ascii "N"]):∃s,senOf 2 (names (ws.map wordOf)) (nums (ws.map wordOf))=some s/\Reads (3,1,[ascii "ABOUT",ascii "can",ascii "be",ascii "OTHER"]) (ws.map bd) s:=by
 obtain⟨cB,_,fs,aX,a'⟩:=cA.mp fr;subst fs;obtain⟨cC,_,dp,D,a5⟩:=cA.mp a';subst dp;obtain⟨cz,_,dS,G,bn⟩:=cA.mp a5;subst dS;obtain⟨cF,_,fD,an,cx⟩:=cA.mp bn;subst fD;obtain e:=i5.mp cx;subst e
 ·obtain⟨ec,cD⟩:=f4 aX;obtain⟨ca,ap⟩:=dr ⇑0 D;obtain⟨cp,ao⟩:=dr ⇑0 G;obtain⟨dN,bz⟩:=f4 an;refine⟨.can cB cF,?_,?_⟩
  ·simp only[bU,dc,cD,ap,ao,bz,names,nums,gd,kb];rfl
  ·have bl:[cB,cC,cz,cF].map bd=[cB,cC,cz,cF]:=by simp only[bU,dc];rw[eQ ec,eQ dN,show bd cC=cC by rw[ca];decide,show bd cz=cz by rw[cp];decide]
   rw[bl];exact⟨⟨ec,Or.inr dN,by show(-1000000000:Int)<=1;decide,by show(1:Int)<=1000000000;decide⟩,z,z,z,Or.inl ⟨z,z⟩⟩
def abe {ws:List Bytes}(fr:ws.map sw=[ascii "N",ascii "has",ascii "a",ascii "number",ascii "N"]):∃s,senOf 3 (names (ws.map wordOf)) (nums (ws.map wordOf))=some s/\Reads (4,1,[ascii "ABOUT",ascii "has",ascii "a",ascii "number",ascii "OTHER"]) (ws.map bd) s:=by
 obtain⟨cB,_,fs,aX,a'⟩:=cA.mp fr;subst fs;obtain⟨cC,_,dp,D,a5⟩:=cA.mp a';subst dp;obtain⟨cz,_,dS,G,bn⟩:=cA.mp a5;subst dS;obtain⟨cF,_,fD,an,cx⟩:=cA.mp bn;subst fD;obtain⟨fg,_,hj,aU,g0⟩:=cA.mp cx;subst hj;obtain e:=i5.mp g0;subst e
 ·obtain⟨ec,cD⟩:=f4 aX;obtain⟨ca,ap⟩:=dr ⇑0 D;obtain⟨cp,ao⟩:=dr ⇑0 G;obtain⟨dN,bz⟩:=dr ⇑0 an;obtain⟨iV,fe⟩:=f4 aU;refine⟨.counts cB fg,?_,?_⟩
  ·simp only[bU,dc,cD,ap,ao,bz,fe,names,nums,gd,kb];rfl
  ·have bl:[cB,cC,cz,cF,fg].map bd=[cB,cC,cz,cF,fg]:=by simp only[bU,dc];rw[eQ ec,eQ iV,show bd cC=cC by rw[ca];decide,show bd cz=cz by rw[cp];decide,show bd cF=cF by rw[dN];decide]
   rw[bl];exact⟨⟨ec,Or.inr iV,by show(-1000000000:Int)<=1;decide,by show(1:Int)<=1000000000;decide⟩,z,z,z,Or.inl ⟨z,z⟩⟩
def abf {ws:List Bytes}(fr:ws.map sw=[ascii "N",ascii "is",ascii "a",ascii "N"]):∃s,senOf 4 (names (ws.map wordOf)) (nums (ws.map wordOf))=some s/\Reads (5,1,[ascii "ABOUT",ascii "is",ascii "a",ascii "OTHER"]) (ws.map bd) s:=by
 obtain⟨cB,_,fs,aX,a'⟩:=cA.mp fr;subst fs;obtain⟨cC,_,dp,D,a5⟩:=cA.mp a';subst dp;obtain⟨cz,_,dS,G,bn⟩:=cA.mp a5;subst dS;obtain⟨cF,_,fD,an,cx⟩:=cA.mp bn;subst fD;obtain e:=i5.mp cx;subst e
 ·obtain⟨ec,cD⟩:=f4 aX;obtain⟨ca,ap⟩:=dr ⇑0 D;obtain⟨cp,ao⟩:=dr ⇑0 G;obtain⟨dN,bz⟩:=f4 an;refine⟨.isA cB cF,?_,?_⟩
  ·simp only[bU,dc,cD,ap,ao,bz,names,nums,gd,kb];rfl
  ·have bl:[cB,cC,cz,cF].map bd=[cB,cC,cz,cF]:=by simp only[bU,dc];rw[eQ ec,eQ dN,show bd cC=cC by rw[ca];decide,show bd cz=cz by rw[cp];decide]
   rw[bl];exact⟨⟨ec,Or.inr dN,by show(-1000000000:Int)<=1;decide,by show(1:Int)<=1000000000;decide⟩,z,z,z,Or.inl ⟨z,z⟩⟩
def abg {ws:List Bytes}(fr:ws.map sw=[ascii "N",ascii "is",ascii "N"]):∃s,senOf 5 (names (ws.map wordOf)) (nums (ws.map wordOf))=some s/\Reads (6,1,[ascii "ABOUT",ascii "is",ascii "OTHER"]) (ws.map bd) s:=by
 obtain⟨cB,_,fs,aX,a'⟩:=cA.mp fr;subst fs;obtain⟨cC,_,dp,D,a5⟩:=cA.mp a';subst dp;obtain⟨cz,_,dS,G,bn⟩:=cA.mp a5;subst dS;obtain e:=i5.mp bn;subst e
 ·obtain⟨ec,cD⟩:=f4 aX;obtain⟨ca,ap⟩:=dr ⇑0 D;obtain⟨cp,ao⟩:=f4 G;refine⟨.told cB cz true,?_,?_⟩
  ·simp only[bU,dc,cD,ap,ao,names,nums,gd,kb];rfl
  ·have bl:[cB,cC,cz].map bd=[cB,cC,cz]:=by simp only[bU,dc];rw[eQ ec,eQ cp,show bd cC=cC by rw[ca];decide]
   rw[bl];exact⟨⟨ec,Or.inr cp,by show(-1000000000:Int)<=1;decide,by show(1:Int)<=1000000000;decide⟩,z,z,z,Or.inl ⟨z,z⟩⟩
def abh {ws:List Bytes}(fr:ws.map sw=[ascii "N",ascii "is",ascii "not",ascii "N"]):∃s,senOf 6 (names (ws.map wordOf)) (nums (ws.map wordOf))=some s/\Reads (6,0,[ascii "ABOUT",ascii "is",ascii "not",ascii "OTHER"]) (ws.map bd) s:=by
 obtain⟨cB,_,fs,aX,a'⟩:=cA.mp fr;subst fs;obtain⟨cC,_,dp,D,a5⟩:=cA.mp a';subst dp;obtain⟨cz,_,dS,G,bn⟩:=cA.mp a5;subst dS;obtain⟨cF,_,fD,an,cx⟩:=cA.mp bn;subst fD;obtain e:=i5.mp cx;subst e
 ·obtain⟨ec,cD⟩:=f4 aX;obtain⟨ca,ap⟩:=dr ⇑0 D;obtain⟨cp,ao⟩:=dr ⇑0 G;obtain⟨dN,bz⟩:=f4 an;refine⟨.told cB cF false,?_,?_⟩
  ·simp only[bU,dc,cD,ap,ao,bz,names,nums,gd,kb];rfl
  ·have bl:[cB,cC,cz,cF].map bd=[cB,cC,cz,cF]:=by simp only[bU,dc];rw[eQ ec,eQ dN,show bd cC=cC by rw[ca];decide,show bd cz=cz by rw[cp];decide]
   rw[bl];exact⟨⟨ec,Or.inr dN,by show(-1000000000:Int)<=0;decide,by show(0:Int)<=1000000000;decide⟩,z,z,z,Or.inl ⟨z,z⟩⟩
def abi {ws:List Bytes}(fr:ws.map sw=[ascii "every",ascii "N",ascii "is",ascii "N"]):∃s,senOf 7 (names (ws.map wordOf)) (nums (ws.map wordOf))=some s/\Reads (7,1,[ascii "every",ascii "ABOUT",ascii "is",ascii "OTHER"]) (ws.map bd) s:=by
 obtain⟨cB,_,fs,aX,a'⟩:=cA.mp fr;subst fs;obtain⟨cC,_,dp,D,a5⟩:=cA.mp a';subst dp;obtain⟨cz,_,dS,G,bn⟩:=cA.mp a5;subst dS;obtain⟨cF,_,fD,an,cx⟩:=cA.mp bn;subst fD;obtain e:=i5.mp cx;subst e
 ·obtain⟨ec,cD⟩:=dr ⇑0 aX;obtain⟨ca,ap⟩:=f4 D;obtain⟨cp,ao⟩:=dr ⇑0 G;obtain⟨dN,bz⟩:=f4 an;refine⟨.every cC cF true,?_,?_⟩
  ·simp only[bU,dc,cD,ap,ao,bz,names,nums,gd,kb];rfl
  ·have bl:[cB,cC,cz,cF].map bd=[cB,cC,cz,cF]:=by simp only[bU,dc];rw[eQ ca,eQ dN,show bd cB=cB by rw[ec];decide,show bd cz=cz by rw[cp];decide]
   rw[bl];exact⟨⟨ca,Or.inr dN,by show(-1000000000:Int)<=1;decide,by show(1:Int)<=1000000000;decide⟩,z,z,z,Or.inl ⟨z,z⟩⟩
def abj {ws:List Bytes}(fr:ws.map sw=[ascii "every",ascii "N",ascii "is",ascii "not",ascii "N"]):∃s,senOf 8 (names (ws.map wordOf)) (nums (ws.map wordOf))=some s/\Reads (7,0,[ascii "every",ascii "ABOUT",ascii "is",ascii "not",ascii "OTHER"]) (ws.map bd) s:=by
 obtain⟨cB,_,fs,aX,a'⟩:=cA.mp fr;subst fs;obtain⟨cC,_,dp,D,a5⟩:=cA.mp a';subst dp;obtain⟨cz,_,dS,G,bn⟩:=cA.mp a5;subst dS;obtain⟨cF,_,fD,an,cx⟩:=cA.mp bn;subst fD;obtain⟨fg,_,hj,aU,g0⟩:=cA.mp cx;subst hj;obtain e:=i5.mp g0;subst e
 ·obtain⟨ec,cD⟩:=dr ⇑0 aX;obtain⟨ca,ap⟩:=f4 D;obtain⟨cp,ao⟩:=dr ⇑0 G;obtain⟨dN,bz⟩:=dr ⇑0 an;obtain⟨iV,fe⟩:=f4 aU;refine⟨.every cC fg false,?_,?_⟩
  ·simp only[bU,dc,cD,ap,ao,bz,fe,names,nums,gd,kb];rfl
  ·have bl:[cB,cC,cz,cF,fg].map bd=[cB,cC,cz,cF,fg]:=by simp only[bU,dc];rw[eQ ca,eQ iV,show bd cB=cB by rw[ec];decide,show bd cz=cz by rw[cp];decide,show bd cF=cF by rw[dN];decide]
   rw[bl];exact⟨⟨ca,Or.inr iV,by show(-1000000000:Int)<=0;decide,by show(0:Int)<=1000000000;decide⟩,z,z,z,Or.inl ⟨z,z⟩⟩
def abk {ws:List Bytes}(fr:ws.map sw=[ascii "usually",ascii "every",ascii "N",ascii "is",ascii "N"]):∃s,senOf 9 (names (ws.map wordOf)) (nums (ws.map wordOf))=some s/\Reads (8,1,[ascii "usually",ascii "every",ascii "ABOUT",ascii "is",ascii "OTHER"]) (ws.map bd) s:=by
 obtain⟨cB,_,fs,aX,a'⟩:=cA.mp fr;subst fs;obtain⟨cC,_,dp,D,a5⟩:=cA.mp a';subst dp;obtain⟨cz,_,dS,G,bn⟩:=cA.mp a5;subst dS;obtain⟨cF,_,fD,an,cx⟩:=cA.mp bn;subst fD;obtain⟨fg,_,hj,aU,g0⟩:=cA.mp cx;subst hj;obtain e:=i5.mp g0;subst e
 ·obtain⟨ec,cD⟩:=dr ⇑0 aX;obtain⟨ca,ap⟩:=dr ⇑0 D;obtain⟨cp,ao⟩:=f4 G;obtain⟨dN,bz⟩:=dr ⇑0 an;obtain⟨iV,fe⟩:=f4 aU;refine⟨.usual cz fg true,?_,?_⟩
  ·simp only[bU,dc,cD,ap,ao,bz,fe,names,nums,gd,kb];rfl
  ·have bl:[cB,cC,cz,cF,fg].map bd=[cB,cC,cz,cF,fg]:=by simp only[bU,dc];rw[eQ cp,eQ iV,show bd cB=cB by rw[ec];decide,show bd cC=cC by rw[ca];decide,show bd cF=cF by rw[dN];decide]
   rw[bl];exact⟨⟨cp,Or.inr iV,by show(-1000000000:Int)<=1;decide,by show(1:Int)<=1000000000;decide⟩,z,z,z,Or.inl ⟨z,z⟩⟩
def abl {ws:List Bytes}(fr:ws.map sw=[ascii "usually",ascii "every",ascii "N",ascii "is",ascii "not",ascii "N"]):∃s,senOf 10 (names (ws.map wordOf)) (nums (ws.map wordOf))=some s/\Reads (8,0,[ascii "usually",ascii "every",ascii "ABOUT",ascii "is",ascii "not",ascii "OTHER"]) (ws.map bd) s:=by
 obtain⟨cB,_,fs,aX,a'⟩:=cA.mp fr;subst fs;obtain⟨cC,_,dp,D,a5⟩:=cA.mp a';subst dp;obtain⟨cz,_,dS,G,bn⟩:=cA.mp a5;subst dS;obtain⟨cF,_,fD,an,cx⟩:=cA.mp bn;subst fD;obtain⟨fg,_,hj,aU,g0⟩:=cA.mp cx;subst hj;obtain⟨hA,_,l2,bY,pj⟩:=cA.mp g0;subst l2;obtain e:=i5.mp pj;subst e
 ·obtain⟨ec,cD⟩:=dr ⇑0 aX;obtain⟨ca,ap⟩:=dr ⇑0 D;obtain⟨cp,ao⟩:=f4 G;obtain⟨dN,bz⟩:=dr ⇑0 an;obtain⟨iV,fe⟩:=dr ⇑0 aU;obtain⟨jN,fT⟩:=f4 bY;refine⟨.usual cz hA false,?_,?_⟩
  ·simp only[bU,dc,cD,ap,ao,bz,fe,fT,names,nums,gd,kb];rfl
  ·have bl:[cB,cC,cz,cF,fg,hA].map bd=[cB,cC,cz,cF,fg,hA]:=by simp only[bU,dc];rw[eQ cp,eQ jN,show bd cB=cB by rw[ec];decide,show bd cC=cC by rw[ca];decide,show bd cF=cF by rw[dN];decide,show bd fg=fg by rw[iV];decide]
   rw[bl];exact⟨⟨cp,Or.inr jN,by show(-1000000000:Int)<=0;decide,by show(0:Int)<=1000000000;decide⟩,z,z,z,Or.inl ⟨z,z⟩⟩
def abm {ws:List Bytes}(fr:ws.map sw=[ascii "the",ascii "N",ascii "of",ascii "N",ascii "is",ascii "#"]):∃s,senOf 11 (names (ws.map wordOf)) (nums (ws.map wordOf))=some s/\Reads (9,1,[ascii "the",ascii "OTHER",ascii "of",ascii "ABOUT",ascii "is",ascii "SAID"]) (ws.map bd) s:=by
 obtain⟨cB,_,fs,aX,a'⟩:=cA.mp fr;subst fs;obtain⟨cC,_,dp,D,a5⟩:=cA.mp a';subst dp;obtain⟨cz,_,dS,G,bn⟩:=cA.mp a5;subst dS;obtain⟨cF,_,fD,an,cx⟩:=cA.mp bn;subst fD;obtain⟨fg,_,hj,aU,g0⟩:=cA.mp cx;subst hj;obtain⟨hA,_,l2,bY,pj⟩:=cA.mp g0;subst l2;obtain e:=i5.mp pj;subst e
 ·obtain⟨ec,cD⟩:=dr ⇑0 aX;obtain⟨ca,ap⟩:=f4 D;obtain⟨cp,ao⟩:=dr ⇑0 G;obtain⟨dN,bz⟩:=f4 an;obtain⟨iV,fe⟩:=dr ⇑0 aU;obtain⟨n,jN,fT⟩:=RF bY;refine⟨.value cC cF n,?_,?_⟩
  ·simp only[bU,dc,cD,ap,ao,bz,fe,fT,names,nums,gd,kb];rfl
  ·have bl:[cB,cC,cz,cF,fg,hA].map bd=[cB,cC,cz,cF,fg,bd hA]:=by simp only[bU,dc];rw[eQ ca,eQ dN,show bd cB=cB by rw[ec];decide,show bd cz=cz by rw[cp];decide,show bd fg=fg by rw[iV];decide]
   rw[bl];exact⟨⟨dN,Or.inr ca,(Bg jN).1,(Bg jN).2⟩,z,z,z,Or.inr ⟨bd hA,z,by rw[F7];exact jN⟩⟩
def abn {ws:List Bytes}(fr:ws.map sw=[ascii "the",ascii "N",ascii "of",ascii "every",ascii "N",ascii "is",ascii "usually",ascii "#"]):∃s,senOf 12 (names (ws.map wordOf)) (nums (ws.map wordOf))=some s/\Reads (10,1,[ascii "the",ascii "OTHER",ascii "of",ascii "every",ascii "ABOUT",ascii "is",ascii "usually",ascii "SAID"]) (ws.map bd) s:=by
 obtain⟨cB,_,fs,aX,a'⟩:=cA.mp fr;subst fs;obtain⟨cC,_,dp,D,a5⟩:=cA.mp a';subst dp;obtain⟨cz,_,dS,G,bn⟩:=cA.mp a5;subst dS;obtain⟨cF,_,fD,an,cx⟩:=cA.mp bn;subst fD;obtain⟨fg,_,hj,aU,g0⟩:=cA.mp cx;subst hj;obtain⟨hA,_,l2,bY,pj⟩:=cA.mp g0;subst l2;obtain⟨uC,_,si,gX,abo⟩:=cA.mp pj;subst si;obtain⟨rM,_,x4,m0,abp⟩:=cA.mp abo;subst x4;obtain e:=i5.mp abp;subst e
 ·obtain⟨ec,cD⟩:=dr ⇑0 aX;obtain⟨ca,ap⟩:=f4 D;obtain⟨cp,ao⟩:=dr ⇑0 G;obtain⟨dN,bz⟩:=dr ⇑0 an;obtain⟨iV,fe⟩:=f4 aU;obtain⟨jN,fT⟩:=dr ⇑0 bY;obtain⟨abq,n4⟩:=dr ⇑0 gX;obtain⟨n,mK,x5⟩:=RF m0;refine⟨.first cC fg n,?_,?_⟩
  ·simp only[bU,dc,cD,ap,ao,bz,fe,fT,n4,x5,names,nums,gd,kb];rfl
  ·have bl:[cB,cC,cz,cF,fg,hA,uC,rM].map bd=[cB,cC,cz,cF,fg,hA,uC,bd rM]:=by simp only[bU,dc];rw[eQ ca,eQ iV,show bd cB=cB by rw[ec];decide,show bd cz=cz by rw[cp];decide,show bd cF=cF by rw[dN];decide,show bd hA=hA by rw[jN];decide,show bd uC=uC by rw[abq];decide]
   rw[bl];exact⟨⟨iV,Or.inr ca,(Bg mK).1,(Bg mK).2⟩,z,z,z,Or.inr ⟨bd rM,z,by rw[F7];exact mK⟩⟩
def abr {ws:List Bytes}(fr:ws.map sw=[ascii "N",ascii "is",ascii "in",ascii "N"]):∃s,senOf 13 (names (ws.map wordOf)) (nums (ws.map wordOf))=some s/\Reads (11,1,[ascii "ABOUT",ascii "is",ascii "in",ascii "OTHER"]) (ws.map bd) s:=by
 obtain⟨cB,_,fs,aX,a'⟩:=cA.mp fr;subst fs;obtain⟨cC,_,dp,D,a5⟩:=cA.mp a';subst dp;obtain⟨cz,_,dS,G,bn⟩:=cA.mp a5;subst dS;obtain⟨cF,_,fD,an,cx⟩:=cA.mp bn;subst fD;obtain e:=i5.mp cx;subst e
 ·obtain⟨ec,cD⟩:=f4 aX;obtain⟨ca,ap⟩:=dr ⇑0 D;obtain⟨cp,ao⟩:=dr ⇑0 G;obtain⟨dN,bz⟩:=f4 an;refine⟨.inside cB cF,?_,?_⟩
  ·simp only[bU,dc,cD,ap,ao,bz,names,nums,gd,kb];rfl
  ·have bl:[cB,cC,cz,cF].map bd=[cB,cC,cz,cF]:=by simp only[bU,dc];rw[eQ ec,eQ dN,show bd cC=cC by rw[ca];decide,show bd cz=cz by rw[cp];decide]
   rw[bl];exact⟨⟨ec,Or.inr dN,by show(-1000000000:Int)<=1;decide,by show(1:Int)<=1000000000;decide⟩,z,z,z,Or.inl ⟨z,z⟩⟩
def abt (ws):place ws<=14:=List.findIdx_le_length
def ky (aj:place ws=i)(au:c9[i]?=some sh):ws.map sw=sh.2.2.map sg:=by
 have ah:=(c_.mp au).1;have hm:=gc au;have aS:hF sh.2.2 (ws.map bd)=true:=by
  have h:=List.findIdx_getElem (p:=λ sh:Nat×Int×List Bytes=>hF sh.2.2 (ws.map bd)) (xs:=c9) (w:=by rw[show List.findIdx _ c9=i from aj];exact ah);have e:c9[c9.findIdx λ sh=>hF sh.2.2 (ws.map bd)]?=some sh:=by rw[show List.findIdx _ c9=i from aj];exact au
  rw[ez (by rw[show List.findIdx _ c9=i from aj];exact ah)] at e;have e:=eV e;rw[e] at h;exact h
 rw[Bf ws (F_ sh hm)] at aS;exact nJ aS
def abz9 {x:Option Sen}(f:ws.map sw=sh.2.2.map sg->∃s,x=some s/\Reads sh (ws.map bd) s)(ar:place ws=i)(au:c9[i]?=some sh):∃s sh,x=some s/\c9[i]?=some sh/\Reads sh (ws.map bd) s:=let⟨s,D,G⟩:=f (ky ar au);⟨s,sh,D,au,G⟩
def abu (ws):(place ws=14/\senOf (place ws) (names (ws.map wordOf)) (nums (ws.map wordOf))=none)\/
  ∃s sh,senOf (place ws) (names (ws.map wordOf)) (nums (ws.map wordOf))=some s/\c9[place ws]?=some sh/\Reads sh (ws.map bd) s:=by
 have lQ:=abt ws;generalize ar:place ws=i at lQ;rcases (by decide:∀i<15,i=0\/i=1\/i=2\/i=3\/i=4\/i=5\/i=6\/i=7\/i=8\/i=9\/i=10\/i=11\/i=12\/i=13\/i=14) i ⇑1 with rfl|rfl|rfl|rfl|rfl|rfl|rfl|rfl|rfl|rfl|rfl|rfl|rfl|rfl|rfl
 ·exact .inr (abz9 abb ar z)
 ·exact .inr (abz9 abc ar z)
 ·exact .inr (abz9 abd ar z)
 ·exact .inr (abz9 abe ar z)
 ·exact .inr (abz9 abf ar z)
 ·exact .inr (abz9 abg ar z)
 ·exact .inr (abz9 abh ar z)
 ·exact .inr (abz9 abi ar z)
 ·exact .inr (abz9 abj ar z)
 ·exact .inr (abz9 abk ar z)
 ·exact .inr (abz9 abl ar z)
 ·exact .inr (abz9 abm ar z)
 ·exact .inr (abz9 abn ar z)
 ·exact .inr (abz9 abr ar z)
 ·exact .inl ⟨z,z⟩
def F' (Y:b.getLast? =some 46):(readLine b=none/\place (split 32 b.dropLast)=14)\/
  ∃s sh,readLine b=some s/\c9[place (split 32 b.dropLast)]?=some sh/\Reads sh ((split 32 b.dropLast).map bd) s:=by
 have ek:=k6 32 b.dropLast;have lO:=split_free (sep:=32) b.dropLast;unfold readLine;rw[aA Y];dsimp only;generalize split 32 b.dropLast=ws at ek lO⊢;have ar:=aa8 ek lO;have e:(ws.map wordOf).map shape=ws.map sw:=by rw[ht];rfl
 rw[e];cases q:(ws.map wordOf).any (λ w=>(shape w).isEmpty) with
 |true=>
  rw[aA z];refine Or.inl ⟨z,?_⟩;refine(List.findIdx_eq_length (xs:=c9)).mpr λ sh ji=>?_;obtain⟨w,hw,au⟩:=hS.mp q;obtain⟨v,ba,rfl⟩:=cd.mp hw;cases r:hF sh.2.2 (ws.map bd) with
  |false=>rfl
  |true=>
   rw[Bf ws (F_ sh ji)] at r;have r:=nJ r;have hm:sw v∈sh.2.2.map sg:=by rw[<-r];exact cd.mpr ⟨v,ba,z⟩
   exact absurd (DW.mp au) ((RC sh ji).1 _ hm).2
 |false=>
  rw[ay eo,ar];rcases abu ws with⟨D,G⟩|h
  ·exact .inl ⟨G,D⟩
  ·exact .inr h
def Ga (Y:¬b.getLast? =some 46):readLine b=none:=by unfold readLine;rw[ay Y]
def RG (h:readLine b=some s):cE s:=by
 by_cases Y:b.getLast? =some 46
 ·rcases F' Y with⟨D,_⟩|⟨aV,sh,D,_,an⟩
  ·rw[D] at h;cases h
  ·rw[D] at h;cases h;exact an.RE
 ·rw[Ga Y] at h;cases h
def sub (s:Sen)(sl:Bytes):Bytes:=if sl=kv then aF s else if sl=jY then aD s else if sl=kx then dec (bv s) else sl
def iW:Sen->Nat
 |.kind _=>0|.under _ _=>1|.can _ _=>2|.counts _ _=>3|.isA _ _=>4
 |.told _ _ y=>if y=true then 5 else 6
 |.every _ _ y=>if y=true then 7 else 8
 |.usual _ _ y=>if y=true then 9 else 10
 |.value _ _ _=>11|.first _ _ _=>12|.inside _ _=>13
def ft (s:Sen):List Bytes:=(c9.getD (iW s) (0,0,[])).2.2
def m3 (s):sub s (ascii "ABOUT")=aF s:=aA z
def n5 (s):sub s (ascii "OTHER")=aD s:=by unfold sub;rw[ay ⇑0];exact aA z
def RH (s):sub s (ascii "SAID")=dec (bv s):=by unfold sub;rw[ay ⇑0,ay ⇑0];exact aA z
def e1 (s)(h:k∈RESERVED):sub s k=k:=by
 have g:∀k∈RESERVED,¬k=kv/\¬k=jY/\¬k=kx:=by decide
 obtain⟨D,G,an⟩:=g k h;unfold sub;rw[ay D,ay G,ay an]
def RI (s):shown s=spaced ((ft s).map (sub s))++[46]:=by
 cases s with
 |kind k=>simp only[ft,iW,c9,mv,bU,dc,m3,e1 (k:=ascii "is") _ ⇑0,e1 (k:=ascii "a") _ ⇑0,e1 (k:=ascii "kind") _ ⇑0];rfl
 |under k l=>simp only[ft,iW,c9,mv,nD,bU,dc,m3,n5,e1 (k:=ascii "is") _ ⇑0,e1 (k:=ascii "a") _ ⇑0,e1 (k:=ascii "kind") _ ⇑0,e1 (k:=ascii "of") _ ⇑0];rfl
 |can k l=>simp only[ft,iW,c9,mv,nD,bU,dc,m3,n5,e1 (k:=ascii "can") _ ⇑0,e1 (k:=ascii "be") _ ⇑0];rfl
 |counts k l=>simp only[ft,iW,c9,mv,nD,bU,dc,m3,n5,e1 (k:=ascii "has") _ ⇑0,e1 (k:=ascii "a") _ ⇑0,e1 (k:=ascii "number") _ ⇑0];rfl
 |isA k l=>simp only[ft,iW,c9,mv,nD,bU,dc,m3,n5,e1 (k:=ascii "is") _ ⇑0,e1 (k:=ascii "a") _ ⇑0];rfl
 |told k l y=>cases y<;>simp only[ft,iW,c9,iq,ip,il,mv,nD,bU,dc,m3,n5,e1 (k:=ascii "is") _ ⇑0,e1 (k:=ascii "not") _ ⇑0]<;>rfl
 |every k l y=>cases y<;>simp only[ft,iW,c9,iq,ip,il,mv,nD,bU,dc,m3,n5,e1 (k:=ascii "is") _ ⇑0,e1 (k:=ascii "not") _ ⇑0,e1 (k:=ascii "every") _ ⇑0]<;>rfl
 |usual k l y=>cases y<;>simp only[ft,iW,c9,iq,ip,il,mv,nD,bU,dc,m3,n5,e1 (k:=ascii "is") _ ⇑0,e1 (k:=ascii "not") _ ⇑0,e1 (k:=ascii "every") _ ⇑0,e1 (k:=ascii "usually") _ ⇑0]<;>rfl
 |value p t n=>simp only[ft,iW,c9,mv,nD,bU,dc,m3,n5,RH,e1 (k:=ascii "is") _ ⇑0,e1 (k:=ascii "the") _ ⇑0,e1 (k:=ascii "of") _ ⇑0];rfl
 |first p t n=>simp only[ft,iW,c9,mv,nD,bU,dc,m3,n5,RH,e1 (k:=ascii "is") _ ⇑0,e1 (k:=ascii "the") _ ⇑0,e1 (k:=ascii "of") _ ⇑0,e1 (k:=ascii "every") _ ⇑0,e1 (k:=ascii "usually") _ ⇑0];rfl
 |inside k l=>simp only[ft,iW,c9,mv,nD,bU,dc,m3,n5,e1 (k:=ascii "is") _ ⇑0,e1 (k:=ascii "in") _ ⇑0];rfl
def jj (n:Nat):Bytes:=(Nat.toDigits 10 n).map Char.toNat
def RJ:∀d:Nat,d<10->(Nat.digitChar d).toNat=48+d:=by decide
def Gb (h:n<10):jj n=[48+n]:=by unfold jj;rw[NA h];show[(Nat.digitChar n).toNat]=_;rw[RJ n h]
def Gc (h:10<=n):jj n=jj (n / 10)++[48+n % 10]:=by have hm:n % 10<10:=Ef n ⇑0;have t:Nat.toDigits 10 (n / 10)++Nat.toDigits 10 (n % 10)=Nat.toDigits 10 (10 * (n / 10)+n % 10):=Nat.toDigits_append_toDigits ⇑0 ⇑1 hm;rw[Nat.div_add_mod] at t;show(Nat.toDigits 10 n).map Char.toNat=_;rw[<-t,db,NA hm];show(Nat.toDigits 10 (n / 10)).map Char.toNat++[(Nat.digitChar (n % 10)).toNat]=_;rw[RJ _ hm]<;>rfl
def abv (n):∃c r,jj n=c::r/\(c=48->n=0)/\48<=c/\c<=57:=by
 induction n using Nat.strongRecOn with
 |_ n ih=>
  by_cases h:n<10;·rw[Gb h];exact⟨48+n,[],z,⇑1,⇑1,⇑1⟩
  ·obtain⟨c,r,D,G,an⟩:=ih (n / 10) ⇑1;rw[Gc ⇑1,D];exact⟨c,r++[48+n % 10],z,λ e=>by have:=G e;omega,an⟩
def fh (d:Bytes):Nat:=d.foldl (λ n c=>10 * n+(c - 48)) 0
def RK (d)(c):fh (d++[c])=10 * fh d+(c - 48):=by unfold fh;rw[N7];rfl
theorem RL:∀(l:Bytes)(a:Nat),a<=l.foldl (λ n c=>10 * n+(c - 48)) a
 |[],a=>bG _
 |c::r,a=>by rw[tA];have:=RL r (10 * a+(c - 48));omega
def RM (h:48<c):1<=fh (c::r):=by unfold fh;rw[tA];have:=RL r (10 * 0+(c - 48));omega
def Bh:isDigit c=true↔48<=c/\c<=57:=by simp[isDigit]
def RN {P:Bytes->Prop}(aX:P [])(D:∀l c,P l->P (l++[c]))(l):P l:=by
 rw[<-NQ l];induction l.reverse with
 |nil=>exact aX
 |cons c r ih=>rw[N8];exact D _ c ih
def abw (d):d≠[]->d.all isDigit=true->¬(d.head? =some 48/\d.length≠1)->jj (fh d)=d:=by
 refine RN (P:=λ d=>d≠[]->d.all isDigit=true->¬(d.head? =some 48/\d.length≠1)->jj (fh d)=d) (λ h=>absurd z h) (λ l c ih _ az b3=>?_) d;rw[D1] at az;simp only[dF,tD,List.all_nil,Bool.and_true] at az;obtain⟨ah,ak⟩:=az;obtain⟨_,_⟩:=Bh.mp ak;rw[RK];cases l with
 |nil=>show jj (10 * 0+(c - 48))=_;rw[Gb ⇑1,show 48+(10 * 0+(c - 48))=c by omega];rfl
 |cons x r=>have aa:¬x=48:=λ e=>b3 ⟨by rw[e];rfl,⇑2⟩;have ak3:48<=x:=(Bh.mp (hq.mp ah x cn)).1;have ar:1<=fh (x::r):=RM ⇑1;have e:=ih ⇑2 ah λ q=>aa (by have:=q.1;simpa using this);rw[Gc ⇑1,show(10 * fh (x::r)+(c - 48)) / 10=fh (x::r) by omega,e,show 48+(10 * fh (x::r)+(c - 48)) % 10=c by omega]
def abx (aX:d≠[])(az:d.all isDigit=true):jj (fh d)=d↔¬(d.head? =some 48/\d.length≠1):=by
 refine⟨λ e q=>?_,abw d aX az⟩;obtain⟨c,_,D,G,_⟩:=abv (fh d);have ak:c=48:=by
  have:d.head? =some c:=by rw[<-e,D];rfl
  rw[q.1] at this;exact(eV this).symm
 have hz:=G ak;rw[hz] at e;rw[<-e] at q;exact q.2 ⇑0
def RO (n:Nat):dec (n:Int)=jj n:=by unfold dec jj;have:toString (n:Int)=toString n:=rfl;rw[this];show(Nat.repr n).toList.map _=_;rw[Nat.repr];simp
def RP (n):dec (-((n+1:Nat):Int))=45::jj (n+1):=by have e:dec (-((n+1:Nat):Int))=("-"++Nat.repr (n+1)).toList.map λ c=>c.toNat:=rfl;rw[e,String.toList_append,db];unfold jj Nat.repr;simp
def isNeg (w:Bytes):Bool:=w.head? ==some 45
def cW (w:Bytes):Bytes:=if isNeg w=true then w.drop 1 else w
def intOf (w:Bytes):Int:=if isNeg w=true then -(fh (cW w):Int) else(fh (cW w):Int)
def iA (w:Bytes):Bool:= !(cW w).isEmpty&&((cW w).all isDigit&&decide ((cW w).length<=10))
def aby (h:fh (c::r)=0)(ak:48<=c):c=48:=by
 by_cases q:48<c;·have:=RM (r:=r) q;omega
 ·omega
def dec_is (h:iA w=true):dec (intOf w)=w↔¬((cW w).head? =some 48/\((cW w).length≠1\/isNeg w=true)):=by
 simp only[iA,dF,oP,fG] at h;obtain⟨aX,az,_⟩:=h;have aX:cW w≠[]:=λ e=>by rw[e] at aX;cases aX
 have aj:=abx aX az;cases aB:isNeg w with
 |false=>
  have m4:cW w=w:=by unfold cW;rw[aB,ay eo]
  have nY:intOf w=(fh (cW w):Int):=by unfold intOf;rw[aB,ay eo]
  rw[nY,RO];rw[m4] at aj⊢;rw[aj];simp
 |true=>
  have m4:cW w=w.drop 1:=by unfold cW;rw[aA aB]
  have rY:w=45::cW w:=by
   cases w with
   |nil=>cases aB
   |cons c r=>
    have:c=45:=by simpa[isNeg] using aB
    rw[m4,this];rfl
  have nY:intOf w= -(fh (cW w):Int):=by unfold intOf;rw[aA aB]
  rw[nY];generalize hd:cW w=d at *;cases ba:fh d with
  |zero=>
   have e:dec (-((0:Nat):Int))=[48]:=by decide
   rw[e];have b3:d.head? =some 48:=by
    cases d with
    |nil=>exact absurd z aX
    |cons c r=>have:=aby ba (Bh.mp (hq.mp az c cn)).1;rw[this];rfl
   constructor;·intro q;rw[rY] at q;injection q with q1 _;exact absurd q1 ⇑0
   ·intro q;exact absurd ⟨b3,Or.inr z⟩ q
  |succ m=>
   rw[RP];have ao:(45::jj (m+1)=w)↔jj (m+1)=d:=by rw[rY];simp
   rw[ao,<-ba,aj];constructor
   ·intro q1 bb;have D:d.length=1:=by
     by_cases B:d.length=1;·exact B
     ·exact absurd ⟨bb.1,B⟩ q1
    have:d=[48]:=by
     cases d with
     |nil=>exact absurd z aX
     |cons c r=>
      have ab:r=[]:=by cases r with
       |nil=>rfl
       |cons _ _=>simp at D
      have ak:c=48:=by simpa using bb.1
      rw[ab,ak]
    rw[this] at ba;have:fh [48]=0:=by decide
    omega
   ·intro q1 bb;exact q1 ⟨bb.1,Or.inr z⟩
def Gd (w):number w=if iA w=true/\dec (intOf w)=w/\(intOf w).natAbs<=1000000000 then some (intOf w) else none:=by
 have e:number w=if ((cW w).isEmpty||(!(cW w).all isDigit||(decide (10<(cW w).length)||((cW w).head? ==some 48&&((cW w).length !=1||isNeg w)))))=true then none
   else if BIG<(fh (cW w):Int) then none else some (if isNeg w=true then -(fh (cW w):Int) else(fh (cW w):Int)):=rfl
 rw[e];cases hd:iA w with
 |false=>
  refine Eq.trans (aA ?_) (ay (λ B=>eo B.1)).symm;simp only[iA,NM,Bool.not_eq_false',DE] at hd;simp only[jB,oP,fG];rcases hd with h|h|h
  ·exact .inl h
  ·exact .inr (Or.inl h)
  ·exact .inr (Or.inr (Or.inl ⇑1))
 |true=>
  have aj:=dec_is hd;simp only[iA,dF,oP,fG] at hd;obtain⟨aX,az,_⟩:=hd;have el:(intOf w).natAbs=fh (cW w):=by unfold intOf;split<;>simp
  rw[el];have di:BIG=1000000000:=rfl;by_cases q:(cW w).head? =some 48/\((cW w).length≠1\/isNeg w=true)
  ·rw[aA,ay (λ B=>(aj.mp B.2.1) q)];simp only[jB,dF,d_,rx];exact .inr (Or.inr (Or.inr q))
  ·rw[ay]
   ·by_cases r:fh (cW w)<=1000000000
    ·rw[ay (by rw[di];omega)];exact Eq.trans z (aA ⟨z,aj.mpr q,r⟩).symm
    ·rw[aA (by rw[di];omega),ay (λ B=>r B.2.2)]
   ·simp only[jB,dF,d_,rx,oP,fG];rw[aX,az];rintro(B|B|B|B)
    ·cases B
    ·cases B
    ·omega
    ·exact q B
theorem qx:∀a:Bytes,lessB a a=false
 |[]=>rfl
 |x::r=>by unfold lessB;rw[qx r];simp
theorem Ge:∀{a b c:Bytes},lessB a b=true->lessB b c=true->lessB a c=true
 |[],[],_,h,_=>by cases h
 |[],_::_,[],_,h=>by cases h
 |[],_::_,_::_,_,_=>rfl
 |_::_,[],_,h,_=>by cases h
 |_::_,_::_,[],_,h=>by cases h
 |x::r,y::t,B::u,D,G=>by
  simp only[lessB,jB,dF,fG,d_] at *;rcases D with D|⟨D,a'⟩<;>rcases G with G|⟨G,a5⟩
  ·exact .inl ⇑1
  ·exact .inl ⇑1
  ·exact .inl ⇑1
  ·exact .inr ⟨⇑1,Ge a' a5⟩
theorem RQ:∀{a b:Bytes},¬a=b->lessB a b=false->lessB b a=true
 |[],[],h,_=>absurd z h
 |[],_::_,_,h=>by cases h
 |_::_,[],_,_=>rfl
 |x::r,y::t,h,D=>by
  simp only[lessB,jB,dF,fG,d_,Bool.or_eq_false_iff,NM,DE,pX] at *;obtain⟨D,G⟩:=D;by_cases e:x=y
  ·subst e;refine Or.inr ⟨z,RQ (λ B=>h (by rw[B])) ?_⟩;rcases G with G|G
   ·exact absurd z G
   ·exact G
  ·exact .inl ⇑1
theorem Gf:∀{l:List Bytes},m∈putB n l↔m=n\/m∈l
 |[]=>by simp[putB]
 |x::r=>by
  unfold putB;split;·simp
  ·split
   ·rename_i h;subst h;simp
   ·rw[bN,Gf (l:=r),bN];constructor
    ·rintro(h|h|h)
     ·exact .inr (Or.inl h)
     ·exact .inl h
     ·exact .inr (Or.inr h)
    ·rintro(h|h|h)
     ·exact .inr (Or.inl h)
     ·exact .inl h
     ·exact .inr (Or.inr h)
abbrev pk (l:List Bytes):Prop:=l.Pairwise λ a b=>lessB a b=true
theorem RR {n:Bytes}:∀{l:List Bytes},pk l->pk (putB n l)
 |[],_=>by simp[putB,pk]
 |x::r,h=>by
  obtain⟨D,G⟩:=im.mp h;unfold putB;split
  ·rename_i q;refine im.mpr ⟨λ y aC=>?_,h⟩;rcases bN.mp aC with rfl|aC
   ·exact q
   ·exact Ge q (D y aC)
  ·split
   ·exact h
   ·rename_i q1 bb;refine im.mpr ⟨λ y aC=>?_,RR G⟩;rcases Gf.mp aC with rfl|aC
    ·exact RQ bb ↥q1
    ·exact D y aC
theorem Gg:∀(l a:List Bytes),pk a->pk (l.foldl (λ a n=>putB n a) a)/\∀m,m∈l.foldl (λ a n=>putB n a) a↔m∈l\/m∈a
 |[],a,h=>⟨h,λ m=>by simp⟩
 |n::r,a,h=>by
  obtain⟨D,G⟩:=Gg r (putB n a) (RR h);refine⟨D,λ m=>?_⟩;rw[tA,G m,Gf,bN];constructor
  ·rintro(h|h|h)
   ·exact .inl (Or.inr h)
   ·exact .inl (Or.inl h)
   ·exact .inr h
  ·rintro((h|h)|h)
   ·exact .inr (Or.inl h)
   ·exact .inl h
   ·exact .inr (Or.inr h)
def pm (l):pk (sortB l):=(Gg l [] List.Pairwise.nil).1
def k7:m∈sortB l↔m∈l:=by have:=(Gg l [] List.Pairwise.nil).2 m;show m∈l.foldl (λ a n=>putB n a) []↔m∈l;simpa using this
theorem Bi:∀{l m:List Bytes},pk l->pk m->(∀x,x∈l↔x∈m)->l=m
 |[],[],_,_,_=>rfl
 |[],y::m,_,_,h=>by have:=(h y).mpr cn;simp at this
 |x::l,[],_,_,h=>by have:=(h x).mp cn;simp at this
 |x::l,y::m,ah,hm,h=>by
  obtain⟨n0,pb⟩:=im.mp ah;obtain⟨o0,gq⟩:=im.mp hm;have e:x=y:=by
   rcases bN.mp ((h x).mp cn) with q|q;·exact q
   ·rcases bN.mp ((h y).mpr cn) with p|p
    ·exact p.symm
    ·have:=Ge (o0 x q) (n0 y p);rw[qx] at this;cases this
  subst e;rw[Bi pb gq λ B=>?_];constructor
  ·intro hz;rcases bN.mp ((h B).mp (cu _ hz)) with q|q
   ·subst q;have:=n0 B hz;rw[qx] at this;cases this
   ·exact q
  ·intro hz;rcases bN.mp ((h B).mpr (cu _ hz)) with q|q
   ·subst q;have:=o0 B hz;rw[qx] at this;cases this
   ·exact q
def abz (h:pk m)(hm:∀x,x∈m↔x∈l):m=sortB l:=Bi h (pm l) λ x=>by rw[k7];exact hm x
def l3 (ls:Lines)(p:Nat->Bool):List Bytes:=(ls.filter λ x=>p (ag x.2)).map λ x=>aF x.2
def d4 (ls:Lines)(p:Nat->Bool):List Bytes:=sortB (l3 ls p)
def dW (ls:Lines)(f:Nat)(k:Bytes):List Bytes:=sortB ((ls.filter λ x=>ag x.2==f&&(bF ls k).contains (aF x.2)).map λ x=>aD x.2)
def abA (ls):kindsIn ls=d4 ls λ f=>f==1||f==2:=by
 unfold kindsIn d4 l3;congr 1;induction ls with
 |nil=>rfl
 |cons x r ih=>obtain⟨_,s⟩:=x;rw[gd,g4];cases s<;>first|exact ih|(simp[ag,aF] at ih⊢;exact ih)
def RS (ls):thingsIn ls=d4 ls λ f=>f==5:=by
 unfold thingsIn d4 l3;congr 1;induction ls with
 |nil=>rfl
 |cons x r ih=>obtain⟨_,s⟩:=x;rw[gd,g4];cases s<;>first|exact ih|(simp[ag,aF] at ih⊢;exact ih)
def abB:a∈adjIn ls↔∃x∈ls,ag x.2=3/\aD x.2=a:=by
 unfold adjIn;rw[k7,zF];constructor
 ·rintro⟨x,aa,h⟩;refine⟨x,aa,?_⟩;cases e:x.2<;>rw[e] at h<;>simp at h;exact⟨z,h⟩
 ·rintro⟨x,aa,D,G⟩;refine⟨x,aa,?_⟩;cases e:x.2<;>rw[e] at D G<;>simp[ag] at D;exact congrArg some G
def abC:a∈numIn ls↔∃x∈ls,ag x.2=4/\aD x.2=a:=by
 unfold numIn;rw[k7,zF];constructor
 ·rintro⟨x,aa,h⟩;refine⟨x,aa,?_⟩;cases e:x.2<;>rw[e] at h<;>simp at h;exact⟨z,h⟩
 ·rintro⟨x,aa,D,G⟩;refine⟨x,aa,?_⟩;cases e:x.2<;>rw[e] at D G<;>simp[ag] at D;exact congrArg some G
def Gh:isLet ls f k w=true↔∃x∈ls,ag x.2=f/\aF x.2∈bF ls k/\aD x.2=w:=by
 unfold isLet;rw[hS];constructor
 ·rintro⟨_,hm,h⟩;rw[uB,hS] at h;obtain⟨x,aa,h⟩:=h;obtain⟨D,G,an⟩:=h4.mp h;exact⟨x,aa,D,by rw[G];exact hm,an⟩
 ·rintro⟨x,aa,D,G,an⟩;refine⟨aF x.2,G,?_⟩;rw[uB,hS];exact⟨x,aa,h4.mpr ⟨D,z,an⟩⟩
def RT:w∈dW ls f k↔isLet ls f k w=true:=by
 unfold dW;rw[k7,Gh,cd];constructor
 ·rintro⟨x,aa,rfl⟩;obtain⟨D,G⟩:=dX.mp aa;simp only[dF,d_,nA] at G;exact⟨x,D,G.1,G.2,z⟩
 ·rintro⟨x,aa,D,G,an⟩;exact⟨x,dX.mpr ⟨aa,by simp[D,G]⟩,an⟩
def RU (ls)(k):(adjIn ls).filter (λ a=>(canBe ls k a).isSome)=dW ls 3 k:=by
 refine Bi (NR _ (pm _)) (pm _) λ a=>?_;rw[dX,RT,A_,m1,abB];constructor;·exact λ h=>h.2
 ·intro h;obtain⟨x,aa,D,_,an⟩:=Gh.mp h;exact⟨⟨x,aa,D,an⟩,h⟩
def RV (ls)(k):(numIn ls).filter (λ a=>(hasNumber ls k a).isSome)=dW ls 4 k:=by
 refine Bi (NR _ (pm _)) (pm _) λ a=>?_;rw[dX,RT,A',m1,abC];constructor;·exact λ h=>h.2
 ·intro h;obtain⟨x,aa,D,_,an⟩:=Gh.mp h;exact⟨⟨x,aa,D,an⟩,h⟩
def eR (ls:Lines)(f:Nat)(k w:Bytes):Option (Nat×Sen):=(bF ls k).findSome? λ m=>bm (cH f m w) ls
def gj (ls:Lines)(t k a:Bytes):Option (Nat×Sen):=((bm (cH 6 t a) ls).or (eR ls 7 k a)).or (eR ls 8 k a)
def hG (ls:Lines)(t k p:Bytes):Option (Nat×Sen):=(bm (cH 9 t p) ls).or (eR ls 10 k p)
def gy (o:Option (Nat×Sen)):Nat:=match o with
 |some x=>if ag x.2=6\/ag x.2=9 then 1 else if ag x.2=7 then 2 else 3
 |none=>4
def fu (o:Option (Nat×Sen)):Int:=match o with
 |some x=>bv x.2
 |none=>0
def lineNo (o:Option (Nat×Sen)):Nat:=match o with
 |some x=>x.1
 |none=>0
def head_filter {bO:Type}(p)(l:List bO):(l.filter p).head? =l.find? p:=by
 induction l with
 |nil=>rfl
 |cons x r ih=>rw[g4,io];cases p x with
  |true=>rfl
  |false=>exact ih
def abD {bO fH:Type}(g:bO->List fH)(l:List bO):(l.flatMap g).head? =l.findSome? λ x=>(g x).head? :=by
 induction l with
 |nil=>rfl
 |cons x r ih=>rw[my,oN,N9,ih];cases (g x).head? <;>rfl
def abE (ls)(t k a):(gi ls t k a).head? =(bm (cH 6 t a) ls).or (eR ls 7 k a):=by
 unfold gi h8 eR;rw[lw,N9,zH,NY,abD,head_filter];congr 1
 ·unfold bm;congr 1;funext x;simp only[cH,cg];cases ag x.2==6<;>cases aF x.2==t<;>cases aD x.2==a<;>rfl
 ·congr 1;funext m;rw[zH,head_filter];unfold bm;congr 1;funext x;simp only[cH,cg];cases ag x.2==7<;>cases aF x.2==m<;>cases aD x.2==a<;>rfl
def qy (h:eR ls f k w=some x):x∈ls/\ag x.2=f/\aD x.2=w/\aF x.2∈bF ls k:=by unfold eR at h;obtain⟨_,hm,e⟩:=mq h;obtain⟨D,G⟩:=gM e;obtain⟨a',a5,bn⟩:=h4.mp G;exact⟨D,a',bn,by rw[a5];exact hm⟩
theorem abF (ls)(k a):((chain ls k).findSome? λ y=>firstOf (λ s=>match s with
   |.usual m b yes=>if m=y.2/\b=a then some yes else none
   |_=>none) ls)=(eR ls 8 k a).map λ x=>(x.1,yes x.2):=by
 rw[A2 ls k λ m=>firstOf (λ s=>match s with
   |.usual cP b yes=>if cP=m/\b=a then some yes else none
   |_=>none) ls]
 unfold eR;rw[N3];congr 1;funext m;refine r9 _ (cH 8 m a) yes (λ s=>?_) ls;cases s<;>first|rfl|simp[cH,ag,aF,aD,yes,bv,xV]
theorem abG (ls)(k p):((chain ls k).findSome? λ y=>firstOf (λ s=>match s with
   |.first q m n=>if q=p/\m=y.2 then some n else none
   |_=>none) ls)=(eR ls 10 k p).map λ x=>(x.1,bv x.2):=by
 rw[A2 ls k λ m=>firstOf (λ s=>match s with
   |.first q cP n=>if q=p/\cP=m then some n else none
   |_=>none) ls]
 unfold eR;rw[N3];congr 1;funext m;refine r9 _ (cH 10 m p) bv (λ s=>?_) ls;cases s<;>first|rfl|simp[cH,ag,aF,aD,bv];rename_i q cP n;by_cases D:q=p<;>by_cases G:cP=m<;>simp[D,G]
theorem abH (ls)(t p):firstOf (λ s=>match s with
  |.value q u n=>if q=p/\u=t then some n else none
  |_=>none) ls=(bm (cH 9 t p) ls).map λ x=>(x.1,bv x.2):=by
 refine r9 _ (cH 9 t p) bv (λ s=>?_) ls;cases s<;>first|rfl|simp[cH,ag,aF,aD,bv];rename_i q cP n;by_cases D:q=p<;>by_cases G:cP=t<;>simp[D,G]
def RW (aB:hC (a7 ls 2))(a1:∀x∈ls,∀y∈ls,x.1=y.1->x=y)(t k a):
  quality ls t k a=(fu (gj ls t k a)==1,gy (gj ls t k a),lineNo (gj ls t k a)):=by
 have b3:=abE ls t k a;rw[Rg] at b3;unfold quality;rw[Rf aB];have hm:∀B∈lZ ls t k a,_:=λ B hz=>Rh hz;cases e:lZ ls t k a with
 |cons B r=>
  rw[e] at b3 hm;have hz:=hm B cn;have ae:gj ls t k a=some B.1:=by unfold gj;rw[<-b3];rfl
  rw[ae,bU];dsimp only[fu,gy,lineNo];refine Prod.ext z (Prod.ext ?_ rfl);have az:ls.any (λ y=>y.1==B.1.1&&(match y.2 with
    |.told _ _ _=>true
    |_=>false))=(ag B.1.2==6):=by
   rw[eW,hS,d_];constructor
   ·rintro⟨y,aC,h⟩;rw[dF,d_] at h;have:=a1 y aC _ hz.1 h.1;rw[<-this];have G:=h.2;cases q:y.2<;>rw[q] at G<;>simp[ag] at G⊢
   ·intro gX;refine⟨B.1,hz.1,?_⟩;rw[DX,rs];cases q:B.1.2<;>rw[q] at gX<;>simp[ag] at gX⊢
  have n4:(if ls.any (λ y=>y.1==B.1.1&&(match y.2 with
    |.told _ _ _=>true
    |_=>false))=true then(1:Nat) else 2)=if ag B.1.2=6\/ag B.1.2=9 then 1 else if ag B.1.2=7 then 2 else 3:=by
   rw[az];rcases hz.2.2 with h|h
   ·simp[h.1]
   ·simp[h.1]
  exact n4
 |nil=>
  rw[e] at b3;have aX:(bm (cH 6 t a) ls).or (eR ls 7 k a)=none:=by rw[<-b3];rfl
  have ae:gj ls t k a=eR ls 8 k a:=by unfold gj;rw[aX];rfl
  rw[ae,dc];have o_:=abF ls k a;have key:∀(o:Option (Nat×Bool)),o=(eR ls 8 k a).map (λ x=>(x.1,yes x.2))->
    (match o with
    |some x=>(x.2,3,x.1)
    |none=>(false,4,0))=(fu (eR ls 8 k a)==1,gy (eR ls 8 k a),lineNo (eR ls 8 k a)):=by
   intro o aT;subst aT;cases q:eR ls 8 k a with
   |none=>rfl
   |some x=>have aa:=(qy q).2.1;unfold gy;dsimp only;rw[ay ⇑1,ay ⇑1];rfl
  exact key _ o_
def RX (ls)(t k p):numberOf ls t k p=(fu (hG ls t k p),gy (hG ls t k p),lineNo (hG ls t k p)):=by
 unfold numberOf;have ap:=abH ls t p;have ao:=abG ls k p;have key:∀(o fz:Option (Nat×Int)),o=(bm (cH 9 t p) ls).map (λ x=>(x.1,bv x.2))->fz=(eR ls 10 k p).map (λ x=>(x.1,bv x.2))->
   (match o with
   |some x=>(x.2,1,x.1)
   |none=>match fz with
    |some x=>(x.2,3,x.1)
    |none=>(0,4,0))=(fu (hG ls t k p),gy (hG ls t k p),lineNo (hG ls t k p)):=by
  intro o fz h h';subst h h';unfold hG;cases q:bm (cH 9 t p) ls with
  |some x=>have aa:=(h4.mp (gM q).2).1;show(bv x.2,1,x.1)=(bv x.2,gy (some x),x.1);unfold gy;dsimp only;rw[aA (Or.inr aa)]
  |none=>
   cases bb:eR ls 10 k p with
   |none=>rfl
   |some x=>have aa:=(qy bb).2.1;show(bv x.2,3,x.1)=(bv x.2,gy (some x),x.1);unfold gy;dsimp only;rw[ay ⇑1,ay ⇑1]
 exact key _ _ ap ao
def iB (ls:Lines)(k:Bytes):List Sen:=(match a7 ls 2 k with
  |some x=>Sen.under k x.2
  |none=>Sen.kind k)::((dW ls 3 k).map (λ a=>Sen.can k a)++(dW ls 4 k).map λ p=>Sen.counts k p)
def jk (ls:Lines)(t k:Bytes):List Sen:=Sen.isA t k::((dW ls 3 k).map (λ a=>Sen.told t a (fu (gj ls t k a)==1))++
    ((dW ls 4 k).map (λ p=>Sen.value p t (fu (hG ls t k p)))++(match a7 ls 11 t with
     |some u=>[Sen.inside t u.2]
     |none=>[])))
def hH (ls:Lines):List Sen:=(d4 ls λ f=>f==1||f==2).flatMap (iB ls)++(d4 ls λ f=>f==5).flatMap λ t=>jk ls t (cV ls t)
theorem RY {bO fH:Type}{f g:bO->List fH}:∀{l:List bO},(∀x∈l,f x=g x)->l.flatMap f=l.flatMap g
 |[],_=>rfl
 |x::r,h=>by rw[my,my,h x cn,RY λ y aC=>h y (cu _ aC)]
def abI (aB:hC (a7 ls 2))(a1:∀x∈ls,∀y∈ls,x.1=y.1->x=y):normal ls=hH ls:=by
 unfold normal hH;rw[abA,RS];congr 1
 ·congr 1;funext k;unfold iB;rw[AY,RU,RV];cases a7 ls 2 k<;>rfl
 ·refine RY λ t a_=>?_;have ax:∃x,a7 ls 5 t=some x:=by
   unfold d4 l3 at a_;rw[k7] at a_;obtain⟨x,aa,rfl⟩:=cd.mp a_;obtain⟨D,G⟩:=dX.mp aa;have G:ag x.2=5:=by simpa using G
   cases q:a7 ls 5 (aF x.2) with
   |some y=>exact⟨y,z⟩
   |none=>unfold a7 at q;have:=kt.mp (tl.mp q) x D;rw[fK.mpr ⟨G,z⟩] at this;cases this
  obtain⟨x,aa⟩:=ax;have h9:cV ls t=x.2:=by unfold cV;rw[aa]
  rw[uu,aa,h9,FQ];dsimp only;unfold jk;rw[RU,RV];congr 2
  ·refine mu λ a _=>?_;rw[RW aB a1]
  ·congr 1
   ·refine mu λ a _=>?_;rw[RX]
def abJ (ak:Calm (⇑6 l)):normalText l=shownAll (hH (⇑6 l)):=by unfold normalText;rw[abI ak.lY n2]
def k8 (n:Bytes)(s:Sen):Option Nat:=if aF s=n then some (gx (ag s)) else if aD s=n then some (dR (ag s)) else none
def pl (ls:Lines)(n:Bytes):Option (Nat×Nat):=ls.findSome? λ x=>(k8 n x.2).map λ p=>(p,x.1)
def abK (ls)(x)(n):pl (ls++[x]) n=(pl ls n).or ((k8 n x.2).map λ p=>(p,x.1)):=by unfold pl;rw[zB];congr 1;cases h:k8 n x.2<;>simp[List.findSome?,h]
def iQ (n:Bytes)(p:Nat)(e:Sen):Bool:=match k8 n e with
 |some q=>q !=p
 |none=>false
def n6 (ls:Lines):Prop:=∀x∈ls,∀y∈ls,h5 x.2 y.2=false
def pn (ls:Lines):Prop:=∀x∈ls,∀y∈ls,dk x.2 y.2=false
def Bj:h5 e s=true↔∃x∈ix e,∃y∈ix s,x.1=y.1/\x.2≠y.2:=by unfold h5;simp only[hS,dF,d_,rx]
def abL (e s):h5 e s=h5 s e:=by
 rw[eW,Bj,Bj];constructor;·rintro⟨x,aa,y,aC,D,G⟩;exact⟨y,aC,x,aa,D.symm,λ B=>G B.symm⟩
 ·rintro⟨x,aa,y,aC,D,G⟩;exact⟨y,aC,x,aa,D.symm,λ B=>G B.symm⟩
def Gi:h5 e s=false↔∀x∈ix e,∀y∈ix s,x.1=y.1->x.2=y.2:=by
 rw[<-tv,Bj];constructor;·intro h x aa y aC e;exact DB λ B=>h ⟨x,aa,y,aC,e,B⟩
 ·rintro h ⟨x,aa,y,aC,D,G⟩;exact G (h x aa y aC D)
def Bk (h:k8 n s=some p):(n,p)∈ix s:=by
 unfold k8 at h;unfold ix;by_cases D:aF s=n;·rw[aA D] at h;cases h;rw[D];exact cn
 ·rw[ay D] at h;by_cases G:aD s=n
  ·rw[aA G] at h;cases h;rw[G];exact cu _ cn
  ·rw[ay G] at h;cases h
def RZ (au:h5 s s=false)(h:(n,p)∈ix s):k8 n s=some p:=by
 have b3:∃q,k8 n s=some q:=by
  unfold ix at h;unfold k8;by_cases D:aF s=n;·exact⟨_,by rw[aA D]⟩
  ·by_cases G:aD s=n
   ·exact⟨_,by rw[ay D,aA G]⟩
   ·simp only[bN,kS,kT,Prod.mk.injEq] at h;rcases h with h|h
    ·exact absurd h.1.symm D
    ·exact absurd h.1.symm G
 obtain⟨q,aK⟩:=b3;have:=Gi.mp au _ (Bk aK) _ h z;rw[aK];exact congrArg some this
def abM (a3:h5 e e=false):h5 e s=(iQ (aF s) (gx (ag s)) e||iQ (aD s) (dR (ag s)) e):=by
 rw[eW,Bj,jB];have key:∀n p,iQ n p e=true↔∃q,(n,q)∈ix e/\q≠p:=by
  intro n p;unfold iQ;cases h:k8 n e with
  |none=>simp only[il,false_iff];rintro⟨q,D,_⟩;rw[RZ a3 D] at h;cases h
  |some q=>
   simp only[rx];constructor;·intro B;exact⟨q,Bk h,B⟩
   ·rintro⟨_,D,G⟩;rw[RZ a3 D] at h;cases h;exact G
 rw[key,key];constructor
 ·rintro⟨x,aa,_,aC,D,G⟩;unfold ix at aC;simp only[bN,kS,kT] at aC;rcases aC with rfl|rfl
  ·exact .inl ⟨x.2,by rw[<-show x.1=aF s from D];exact aa,G⟩
  ·exact .inr ⟨x.2,by rw[<-show x.1=aD s from D];exact aa,G⟩
 ·rintro(⟨q,D,G⟩|⟨q,D,G⟩)
  ·exact⟨_,D,(aF s,gx (ag s)),cn,z,G⟩
  ·exact⟨_,D,(aD s,dR (ag s)),cu _ cn,z,G⟩
def n6.tail (h:n6 (x::r)):n6 r:=λ a az b Y=>h a (cu _ az) b (cu _ Y)
def pn.tail (h:pn (x::r)):pn r:=λ a az b Y=>h a (cu _ az) b (cu _ Y)
def h_ (ls:Lines)(n:Bytes)(p:Nat):Option Nat:=match pl ls n with
 |some e=>if e.1=p then none else some e.2
 |none=>none
theorem Gj {n:Bytes}{p:Nat}:∀{ls:Lines},n6 ls->(bm (iQ n p) ls).map (·.1)=h_ ls n p
 |[],_=>rfl
 |x::r,h=>by
  unfold h_ pl;rw[oN];cases e:k8 n x.2 with
  |none=>rw[kq (by unfold iQ;rw[e])];exact Gj h.tail
  |some q=>
   dsimp only[Option.map_some];by_cases aK:q=p
   ·rw[aA aK,kq (by unfold iQ;rw[e,aK];simp)];have:bm (iQ n p) r=none:=by
     rw[kt];intro y aC;unfold iQ;cases ao:k8 n y.2 with
     |none=>rfl
     |some bb=>have:=Gi.mp (h x cn y (cu _ aC)) _ (Bk e) _ (Bk ao) z;have this:q=bb:=this;rw[<-this,aK];simp
    rw[this];rfl
   ·rw[ay aK,jU (by unfold iQ;rw[e];simpa using aK)];rfl
def Bl:Option Nat->Option Nat->Option Nat
 |some a,some b=>some (min a b)
 |some a,none=>some a
 |none,o=>o
theorem R0 (a b:Sen->Bool):∀{ls:Lines},ls.Pairwise (λ x y=>x.1<y.1)->(bm (λ s=>a s||b s) ls).map (·.1)=Bl ((bm a ls).map (·.1)) ((bm b ls).map (·.1))
 |[],_=>rfl
 |x::r,h=>by
  obtain⟨D,G⟩:=im.mp h;have lt:∀{p:Sen->Bool}{y:Nat×Sen},bm p r=some y->x.1<y.1:=λ e=>D _ (gM e).1;cases ej:a x.2 with
  |true=>
   rw[jU (p:=λ s=>a s||b s) (by show(a x.2||b x.2)=true;rw[ej];rfl),jU ej];cases di:b x.2 with
   |true=>rw[jU di];show _=some (min x.1 x.1);rw[Nat.min_self];rfl
   |false=>
    rw[kq di];cases e:bm b r with
    |none=>rfl
    |some y=>have:=lt e;show some x.1=some (min x.1 y.1);rw[rp ⇑1]
  |false=>
   rw[kq ej];cases di:b x.2 with
   |true=>
    rw[jU (p:=λ s=>a s||b s) (by show(a x.2||b x.2)=true;rw[di,ej];rfl),jU di];cases e:bm a r with
    |none=>rfl
    |some y=>have:=lt e;show some x.1=some (min y.1 x.1);rw[Of ⇑1]
   |false=>rw[kq (p:=λ s=>a s||b s) (by show(a x.2||b x.2)=false;rw[di,ej];rfl),kq di];exact R0 a b G
def pp (ls:Lines)(s:Sen):Option Nat:=Bl (h_ ls (aF s) (gx (ag s))) (h_ ls (aD s) (dR (ag s)))
def abN (a1:n6 ls)(ar:ls.Pairwise (λ x y=>x.1<y.1)):(bm (λ e=>h5 e s) ls).map (·.1)=pp ls s:=by unfold pp;rw[<-Gj a1,<-Gj a1,<-R0 _ _ ar];rw[jh (q:=λ e=>iQ (aF s) (gx (ag s)) e||iQ (aD s) (dR (ag s)) e) λ x aa=>abM (a1 x aa x aa)]
def pq (ls:Lines)(s:Sen):Option (Nat×Sen):=if ag s=2\/ag s=5\/ag s=11 then bm (cg (ag s) (aF s)) ls else bm (cH (ag s) (aF s) (aD s)) ls
def n7 (e s:Sen):Bool:=if ag s=2\/ag s=5\/ag s=11 then aD e==aD s else bv e==bv s
def k9 (ls:Lines)(s:Sen):Option (Nat×Sen):=match pq ls s with
 |some x=>if n7 x.2 s=true then none else some x
 |none=>none
def m5:dk e s=true↔(if ag s=2\/ag s=5\/ag s=11 then cg (ag s) (aF s) e else cH (ag s) (aF s) (aD s) e)=true/\n7 e s=false:=by
 unfold dk n7;by_cases h:ag s=2\/ag s=5\/ag s=11
 ·simp only[aA h];rw[fK];by_cases G:ag e=ag s/\aF e=aF s
  ·rw[aA G];simp[G]
  ·rw[ay G];simp[G]
 ·simp only[ay h];rw[h4];by_cases G:ag e=ag s/\aF e=aF s
  ·rw[aA G];simp[G]
  ·rw[ay G];simp only[il,false_iff];intro B;exact G ⟨B.1.1,B.1.2.1⟩
def abO (s):dk s s=false:=by rw[<-tv,m5];rintro⟨_,h⟩;unfold n7 at h;split at h<;>simp at h
def abP (e s):dk e s=dk s e:=by
 unfold dk;by_cases h:ag e=ag s/\aF e=aF s
 ·rw[aA h,aA (c:=ag s=ag e/\aF s=aF e) ⟨h.1.symm,h.2.symm⟩,h.1];by_cases q:ag s=2\/ag s=5\/ag s=11
  ·rw[aA q,aA q,eW];simp only[rx,ne_eq];exact⟨λ B y=>B y.symm,λ B y=>B y.symm⟩
  ·rw[ay q,ay q,eW];simp only[dF,d_,rx,ne_eq];exact⟨λ B=>⟨B.1.symm,λ y=>B.2 y.symm⟩,λ B=>⟨B.1.symm,λ y=>B.2 y.symm⟩⟩
 ·rw[ay h,ay λ B=>h ⟨B.1.symm,B.2.symm⟩]
theorem Gk {s:Sen}:∀{ls:Lines},pn ls->bm (λ e=>dk e s) ls=k9 ls s
 |[],_=>by
  have:pq [] s=none:=by unfold pq;split<;>rfl
  unfold k9;rw[this];rfl
 |x::r,h=>by
  unfold k9 pq;by_cases q:ag s=2\/ag s=5\/ag s=11
  ·rw[aA q];cases e:cg (ag s) (aF s) x.2 with
   |false=>
    rw[kq e,kq (p:=λ e=>dk e s) (by rw[<-tv,m5,aA q,e];simp)]
    have:=Gk (s:=s) h.tail;unfold k9 pq at this;rw[aA q] at this;exact this
   |true=>
    rw[jU e];cases iX:n7 x.2 s with
    |false=>rw[jU (p:=λ e=>dk e s) (m5.mpr ⟨by rw[aA q];exact e,iX⟩)];dsimp only;rw[ay (by rw[iX];exact eo)]
    |true=>
     dsimp only;rw[aA iX,kt];intro y aC;rw[<-tv];intro B;rcases bN.mp aC with rfl|aC
     ·rw[(m5.mp B).2] at iX;cases iX
     ·obtain⟨iC,e_⟩:=m5.mp B;rw[aA q] at iC;have kp:=h x cn y (cu _ aC);obtain⟨ap,ao⟩:=fK.mp e;obtain⟨x6,uD⟩:=fK.mp iC;have:dk x.2 y.2=true:=m5.mpr ⟨by rw[x6,aA q,uD];exact e,by
       unfold n7 at iX e_⊢;rw[aA q] at iX e_;rw[x6,aA q];have Gl:aD x.2=aD s:=by simpa using iX
       have Gm:¬aD y.2=aD s:=by simpa using e_
       rw[Gl];simpa using λ w=>Gm (Eq.symm w)⟩
      rw[kp] at this;cases this
  ·rw[ay q];cases e:cH (ag s) (aF s) (aD s) x.2 with
   |false=>
    rw[kq e,kq (p:=λ e=>dk e s) (by rw[<-tv,m5,ay q,e];simp)]
    have:=Gk (s:=s) h.tail;unfold k9 pq at this;rw[ay q] at this;exact this
   |true=>
    rw[jU e];cases iX:n7 x.2 s with
    |false=>rw[jU (p:=λ e=>dk e s) (m5.mpr ⟨by rw[ay q];exact e,iX⟩)];dsimp only;rw[ay (by rw[iX];exact eo)]
    |true=>
     dsimp only;rw[aA iX,kt];intro y aC;rw[<-tv];intro B;rcases bN.mp aC with rfl|aC
     ·rw[(m5.mp B).2] at iX;cases iX
     ·obtain⟨iC,e_⟩:=m5.mp B;rw[ay q] at iC;have kp:=h x cn y (cu _ aC);obtain⟨ap,ao,_⟩:=h4.mp e;obtain⟨x6,uD,abQ⟩:=h4.mp iC;have:dk x.2 y.2=true:=m5.mpr ⟨by rw[x6,ay q,uD,abQ];exact e,by
       unfold n7 at iX e_⊢;rw[ay q] at iX e_;rw[x6,ay q];have Gl:bv x.2=bv s:=by simpa using iX
       have Gm:¬bv y.2=bv s:=by simpa using e_
       rw[Gl];simpa using λ w=>Gm (Eq.symm w)⟩
      rw[kp] at this;cases this
def Gn (ls:Lines)(j:Nat)(s:Sen):Option (Nat×List Nat):=
 match k9 ls s with
 |some i=>some (FY (ag s),[i.1,j])
 |none=>if ff ls s=[] then none else some (h6 s,sortNums (ff ls s)++[j])
def uE (ls:Lines)(j:Nat)(s:Sen):Option (Nat×List Nat):=
 if aF s=aD s then some (h6 s,[j])
 else match pp ls s with
 |some i=>some (1,[i,j])
 |none=>Gn ls j s
def abR (a1:n6 ls)(az:pn ls)(ar:ls.Pairwise (λ x y=>x.1<y.1)):jX ls j s=uE ls j s:=by unfold jX uE hD Gn;rw[Gk az,<-abN a1 ar];cases bm (λ e=>h5 e s) ls<;>rfl
def abS (a1:n6 ls)(az:pn ls)(h:jX ls j s=none):n6 (ls++[(j,s)])/\pn (ls++[(j,s)]):=by
 unfold jX at h;by_cases aX:aF s=aD s;·rw[aA aX] at h;cases h
 ·rw[ay aX] at h;cases ap:bm (λ e=>h5 e s) ls with
  |some i=>rw[ap] at h;cases h
  |none=>
   rw[ap] at h;dsimp only at h;unfold hD at h;cases ao:bm (λ e=>dk e s) ls with
   |some i=>rw[ao] at h;cases h
   |none=>
    have a':=kt.mp ap;have a5:=kt.mp ao;have ss:h5 s s=false:=by
     rw[Gi];intro x aa y aC e;unfold ix at aa aC;simp only[bN,kS,kT] at aa aC;rcases aa with rfl|rfl<;>rcases aC with rfl|rfl
     ·rfl
     ·exact absurd e aX
     ·exact absurd e.symm aX
     ·rfl
    constructor
    ·intro x aa y aC;rcases eJ.mp aa with aa|aa<;>rcases eJ.mp aC with aC|aC
     ·exact a1 x aa y aC
     ·rw[dL.mp aC];exact a' x aa
     ·rw[dL.mp aa,abL];exact a' y aC
     ·rw[dL.mp aa,dL.mp aC];exact ss
    ·intro x aa y aC;rcases eJ.mp aa with aa|aa<;>rcases eJ.mp aC with aC|aC
     ·exact az x aa y aC
     ·rw[dL.mp aC];exact a5 x aa
     ·rw[dL.mp aa,abP];exact a5 y aC
     ·rw[dL.mp aa,dL.mp aC];exact abO s
def abT (p)(l r):bm p (l++r)=(bm p l).or (bm p r):=by unfold bm;rw[DQ]
def R1 (r)(h:a7 l f a=some x):a7 (l++r) f a=some x:=by
 unfold a7 at h⊢;rw[abT];cases e:bm (cg f a) l with
 |none=>rw[e] at h;cases h
 |some y=>rw[e] at h;exact h
def c1.mono (h:∀a x,f a=some x->g a=some x)(r:c1 f a b):c1 g a b:=c1.AZ f (P:=λ a=>c1 g a b) (λ a x ap ao=>by rw[<-ao];exact c1.one _ (h a x ap)) (λ a x ap _ ih=>c1.cons _ (h a x ap) ih) r
def abU (h:b∈(b' ls f k).map (·.2)):c1 (a7 ls f) k b:=by obtain⟨x,aa,rfl⟩:=cd.mp h;obtain⟨_,e,_⟩:=FS ls f k;exact⟨ls.length+1,x,by rw[e];exact rj _ aa,z⟩
def abV:m∈bF ls k↔m=k\/c1 (a7 ls 2) k m:=by
 unfold bF;rw[bN];constructor
 ·rintro(h|h)
  ·exact .inl h
  ·exact .inr (abU h)
 ·rintro(h|h)
  ·exact .inl h
  ·exact QV h
def abW (r)(h:m∈bF l k):m∈bF (l++r) k:=by rw[abV] at h⊢;exact h.imp_right λ B=>B.mono λ _ _ e=>R1 r e
def uF (ls:Lines):Prop:=∃t x,a7 ls 5 t=some x/\∃u v,u∈h8 ls t x.2/\v∈h8 ls t x.2/\aD u.2=aD v.2/\bv u.2≠bv v.2
def Bm:u∈h8 ls t k↔u∈ls/\((ag u.2=6/\aF u.2=t)\/(ag u.2=7/\aF u.2∈bF ls k)):=by
 unfold h8;rw[eJ,dX,ro,fK];constructor
 ·rintro(⟨D,G⟩|⟨m,hm,h⟩)
  ·exact⟨D,Or.inl G⟩
  ·obtain⟨D,G⟩:=dX.mp h;obtain⟨an,aU⟩:=fK.mp G;exact⟨D,Or.inr ⟨an,by rw[aU];exact hm⟩⟩
 ·rintro⟨D,G|⟨G,an⟩⟩
  ·exact .inl ⟨D,G⟩
  ·exact .inr ⟨_,an,dX.mpr ⟨D,fK.mpr ⟨G,z⟩⟩⟩
def uF.mono (r)(h:uF l):uF (l++r):=by
 obtain⟨t,x,D,u,v,a1,ba,G,an⟩:=h;have w:∀u,u∈h8 l t x.2->u∈h8 (l++r) t x.2:=λ u h=>by rw[Bm] at h⊢;exact⟨rj _ h.1,h.2.imp_right λ B=>⟨B.1,abW r B.2⟩⟩
 exact⟨t,x,R1 r D,u,v,w u a1,w v ba,G,an⟩
def R2:(iy ls n k W).isSome=true↔∃u v,u∈W/\v∈W/\bv u.2≠bv v.2:=by
 cases W with
 |nil=>simp[iy]
 |cons h r=>
  unfold iy;rw[pZ,List.find?_isSome];constructor
  ·rintro⟨x,aa,e⟩;exact⟨x,h,cu _ aa,cn,↥e⟩
  ·rintro⟨u,v,a1,ba,e⟩;by_cases q:bv u.2=bv h.2
   ·have bb:¬bv v.2=bv h.2:=λ B=>e (q.trans B.symm);rcases bN.mp ba with rfl|ba
    ·exact absurd z bb
    ·exact⟨v,ba,↥bb⟩
   ·rcases bN.mp a1 with rfl|a1
    ·exact absurd z q
    ·exact⟨u,a1,↥q⟩
def R3:(d9 ls).isSome=true↔uF ls:=by
 unfold d9 uF;rw[xU,Ba,hS];constructor
 ·rintro⟨t,_,h⟩;unfold ph at h;cases e:a7 ls 5 t with
  |none=>rw[e] at h;cases h
  |some x=>rw[e] at h;dsimp only at h;rw[xU,Ba,hS] at h;obtain⟨_,_,h⟩:=h;obtain⟨u,v,a1,ba,q⟩:=R2.mp h;unfold gi at a1 ba;obtain⟨abX,qq⟩:=dX.mp a1;obtain⟨abY,k_⟩:=dX.mp ba;exact⟨t,x,e,u,v,abX,abY,by rw[nJ qq,nJ k_],q⟩
 ·rintro⟨t,x,e,u,v,a1,ba,G,an⟩;obtain⟨_,_,_,bY,gX,m0⟩:=uw e;refine⟨t,?_,?_⟩
  ·unfold h7;exact cd.mpr ⟨_,dX.mpr ⟨bY,↥gX⟩,m0⟩
  ·unfold ph;rw[e];dsimp only;rw[xU,Ba,hS];have uG:=Bm.mp a1;refine⟨aD u.2,?_,R2.mpr ⟨u,v,?_,?_,an⟩⟩
   ·unfold jV;exact cd.mpr ⟨u,dX.mpr ⟨uG.1,by rcases uG.2 with B|B<;>simp[B.1]⟩,z⟩
   ·exact dX.mpr ⟨a1,⇑2⟩
   ·exact dX.mpr ⟨ba,by simp[G]⟩
def jl:Lines->Lines->Option (List Nat)
 |_,[]=>none
 |before,x::r=>match d9 (before++[x]) with
  |some t=>some t
  |none=>jl (before++[x]) r
def fv (l:List Sen):Option (List Nat):=jl [] (⇑6 l)
def R4 (r)(h:d9 (l++r)=none):d9 l=none:=by
 cases e:d9 l with
 |none=>rfl
 |some t=>have:=R3.mpr (uF.mono r (R3.mp (by rw[e];rfl)));rw[h] at this;cases this
theorem R5:∀(r b:Lines),d9 (b++r)=none->jl b r=none
 |[],_,_=>rfl
 |x::r,b,h=>by
  have D:d9 ((b++[x])++r)=none:=by rw[iL];exact h
  unfold jl;rw[R4 r D];exact R5 r _ D
theorem R6:∀(m b:Lines)(x:Nat×Sen)(r:Lines)(t:List Nat),d9 (b++m)=none->d9 (b++m++[x])=some t->jl b (m++x::r)=some t
 |[],b,x,r,t,_,G=>by show jl b (x::r)=some t;unfold jl;rw[hr] at G;rw[G]
 |y::m,b,x,r,t,D,G=>by
  have uo:d9 ((b++[y])++m)=none:=by rw[iL];exact D
  show jl b (y::(m++x::r))=some t;unfold jl;rw[R4 m uo];exact R6 m (b++[y]) x r t uo (by rw[iL b];exact G)
def abZ (h:d9 (⇑6 l)=none):fv l=none:=R5 _ [] h
theorem Go (n):∀l i,numbered n (l.take i)=(numbered n l).take i
 |[],i=>by simp[numbered]
 |s::r,0=>rfl
 |s::r,i+1=>by show(n,s)::numbered (n+1) (r.take i)=(n,s)::(numbered (n+1) r).take i;rw[Go]
def ab0 (D:d9 (⇑6 (l.take i))=none)(G:d9 (⇑6 (l.take (i+1)))=some t):fv l=some t:=by
 rw[Go] at D G;unfold fv;by_cases q:i<(⇑6 l).length
 ·have ap:⇑6 l=(⇑6 l).take i++(⇑6 l)[i]::(⇑6 l).drop (i+1):=by rw[<-ny,oM]
  have ao:=List.take_succ_eq_append_getElem q;rw[ao] at G;rw[ap];exact R6 _ [] _ _ t D G
 ·rw[rh ⇑1] at D G;rw[D] at G;cases G
def iD:Lines->Lines->Option (Nat×List Nat)
 |_,[]=>none
 |b,x::r=>match jX b x.1 x.2 with
  |some c=>some c
  |none=>iD (b++[x]) r
def iE:Lines->Lines->Lines
 |_,[]=>[]
 |b,x::r=>match jX b x.1 x.2 with
  |some _=>[]
  |none=>x::iE (b++[x]) r
theorem R7:∀(r b:Lines),sf b r=match jl b (iE b r) with
  |some t=>some (7,t)
  |none=>iD b r
 |[],_=>rfl
 |x::r,b=>by
  unfold sf uA iE iD;cases e:jX b x.1 x.2 with
  |some c=>rfl
  |none=>
   unfold jl;cases ao:d9 (b++[x]) with
   |some t=>rfl
   |none=>dsimp only[Option.map_none];exact R7 r (b++[x])
def ab1 (h:jX ls j s=some c):∃p,c.2=p++[j]:=by
 unfold jX at h;by_cases aX:aF s=aD s;·rw[aA aX] at h;cases h;exact⟨[],z⟩
 ·rw[ay aX] at h;cases ap:bm (λ e=>h5 e s) ls with
  |some i=>rw[ap] at h;cases h;exact⟨[i.1],z⟩
  |none=>
   rw[ap] at h;dsimp only at h;unfold hD at h;cases ao:bm (λ e=>dk e s) ls with
   |some i=>rw[ao] at h;cases h;exact⟨[i.1],z⟩
   |none=>
    rw[ao] at h;dsimp only at h;by_cases an:ff ls s=[];·rw[aA an] at h;cases h
    ·rw[ay an] at h;cases h;exact⟨_,z⟩
theorem R8:∀r b,iD b r=none->iE b r=r
 |[],_,_=>rfl
 |x::r,b,h=>by
  unfold iD at h;unfold iE;cases e:jX b x.1 x.2 with
  |some c=>rw[e] at h;cases h
  |none=>rw[e] at h;dsimp only at h⊢;rw[R8 r _ h]
theorem R9:∀(r b:Lines)(c:Nat×List Nat),iD b r=some c->∃x m,r=iE b r++x::m/\∃p,c.2=p++[x.1]
 |[],_,_,h=>by cases h
 |x::r,b,c,h=>by
  unfold iD at h;unfold iE;cases e:jX b x.1 x.2 with
  |some dw=>rw[e] at h;cases h;exact⟨x,r,z,ab1 e⟩
  |none=>rw[e] at h;dsimp only at h⊢;obtain⟨y,m,D,G⟩:=R9 r _ c h;exact⟨y,m,congrArg (x:: ·) D,G⟩
def ab2 (h:∀s∈l,cE s):(iD [] (⇑6 l)=none/\clash l=(fv l).map λ t=>(7,t))\/
  ∃c p j,iD [] (⇑6 l)=some c/\c.2=p++[j+1]/\j<l.length/\clash l=match fv (l.take j) with
   |some t=>some (7,t)
   |none=>some c:=by
 rw[(Rp h).1];unfold Rm;rw[R7];cases e:iD [] (⇑6 l) with
 |none=>refine Or.inl ⟨z,?_⟩;rw[R8 _ _ e];unfold fv;cases jl [] (⇑6 l)<;>rfl
 |some c=>
  obtain⟨x,m,D,p,G⟩:=R9 _ _ _ e;have aa:(⇑6 l)[(iE [] (⇑6 l)).length]?=some x:=by have:=congrArg (λ B=>B[(iE [] (⇑6 l)).length]?) D;refine this.trans ?_;show(iE [] (⇑6 l)++x::m)[(iE [] (⇑6 l)).length]?=_;rw[ti (bG _),Nat.sub_self];rfl
  have a0:(iE [] (⇑6 l)).length<l.length:=by have:=(c_.mp aa).1;rwa [kr] at this
  rw[uv] at aa;have t2:x.1=(iE [] (⇑6 l)).length+1:=by
   cases q:l[(iE [] (⇑6 l)).length]? with
   |none=>rw[q] at aa;cases aa
   |some s=>rw[q] at aa;rw[<-eV aa];show 1+_=_;omega
  refine Or.inr ⟨c,p,(iE [] (⇑6 l)).length,z,by rw[<-t2];exact G,a0,?_⟩;have ao:⇑6 (l.take (iE [] (⇑6 l)).length)=iE [] (⇑6 l):=by rw[Go];exact(congrArg (λ B=>B.take (iE [] (⇑6 l)).length) D).trans (List.take_left)
  unfold fv;rw[ao]
theorem R_ {f:Bytes->Option (Nat×Bytes)}:∀(n:Nat)(k:Bytes),(climb f n k).length<n->f ((k::(climb f n k).map (·.2)).getLast (oS _ _))=none
 |0,_,h=>by simp at h
 |n+1,k,h=>by
  cases e:f k with
  |none=>have ao:climb f (n+1) k=[]:=r' f e;simp only[ao,dc,List.getLast_singleton];exact e
  |some x=>have ao:climb f (n+1) k=x::climb f n x.2:=pe f e;rw[ao,cJ] at h;have ih:=R_ (f:=f) n x.2 ⇑1;simp only[ao,bU];rw[List.getLast_cons (oS _ _)];exact ih
def R' (l)(f)(k):(b' (⇑6 l) f k).length<=l.length:=by
 have D:=A1 (ls:=⇑6 l) (f:=f) n2 ((⇑6 l).length+1) [] k;have G:∀x∈(b' (⇑6 l) f k).map (·.1),x∈(⇑6 l).map (·.1):=by intro x aa;obtain⟨y,aC,rfl⟩:=cd.mp aa;obtain⟨_,h,_⟩:=ux _ _ _ y aC;exact cd.mpr ⟨_,h,z⟩
 have:=oL D G;rw[be,be,kr] at this;unfold b';rw[kr];exact this
def k' (ls:Lines)(k:Bytes):Bytes:=(bF ls k).getLast (oS _ _)
def ab3 (aB:hC (a7 (⇑6 l) 2))(k):a7 (⇑6 l) 2 (k' (⇑6 l) k)=none:=by have h:=A0 aB k;have:=R_ (f:=a7 (⇑6 l) 2) ((⇑6 l).length+1) k (by rw[h,kr];have:=R' l 2 k;omega);unfold k' bF;simp only[h] at this;exact this
structure World (l:List Sen):Prop where
 RE:∀s∈l,cE s
 calm:Calm (⇑6 l)
 Gp:∀x∈⇑6 l,iz (⇑6 l) x.2=true
def n8 (h:∀s∈l,cE s)(hm:makes l=true):World l:=by unfold makes at hm;rw[dF] at hm;refine⟨h,(Rp h).2 ↥hm.1,λ x aa=>?_⟩;have G:=hm.2;rw[Bb] at G;unfold m2 at G;rw[DW,i5,List.filter_eq_nil_iff] at G;have:=G x aa;simpa using this
def ab4 (h:iz ls s=true)(e:ag s=5):fU ls (aD s)=true:=by unfold iz at h;simpa[e] using h
def ab5 (h:iz ls s=true)(e:ag s=2):fU ls (aD s)=true:=by unfold iz at h;simpa[e] using h
def ab6 (h:iz ls s=true)(e:ag s=7\/ag s=8):isLet ls 3 (aF s) (aD s)=true:=by unfold iz qv at h;rcases e with e|e<;>(rw[e] at h;simp at h;exact h.2)
def ab7 (h:iz ls s=true)(e:ag s=10):isLet ls 4 (aF s) (aD s)=true:=by unfold iz qv at h;rw[e] at h;simp at h;exact h.2
def World.there (W:World l)(h:a7 (⇑6 l) 5 t=some x):fU (⇑6 l) x.2=true:=by obtain⟨_,_,G,an,aU,_⟩:=uw h;rw[G];exact ab4 (W.Gp _ an) aU
def World.up (W:World l)(ax:fU (⇑6 l) k=true)(hm:m∈bF (⇑6 l) k):fU (⇑6 l) m=true:=by
 unfold bF at hm;rcases bN.mp hm with rfl|hm
 ·exact ax
 ·obtain⟨x,aa,rfl⟩:=cd.mp hm;obtain⟨_,D,G,an,_⟩:=ux _ _ _ x aa;rw[<-an];exact ab5 (W.Gp _ D) G
def World.root (W:World l)(ax:fU (⇑6 l) k=true):∃r,bm (cg 1 (k' (⇑6 l) k)) (⇑6 l)=some r:=by have D:=W.up ax (m:=k' (⇑6 l) k) (List.getLast_mem _);have G:=ab3 W.calm.lY k;unfold fU at D;unfold a7 at G;rw[tl] at G;rw[G] at D;simp at D;exact jy.mp D
def say (ls:Lines)(f:Nat)(t k w:Bytes):Option (Nat×Sen):=if f=3 then gj ls t k w else hG ls t k w
def kindS (o:Option (Nat×Sen))(k:Bytes):Bytes:=match o with
 |some x=>if ag x.2=6\/ag x.2=9 then k else aF x.2
 |none=>k
def Sa (h:x∈⇑6 l):1<=x.1:=(A9 1 l).2 x h
def ab8 (h:x∈⇑6 l):(⇑6 l).find? (λ y=>y.1==x.1)=some x:=by
 cases e:(⇑6 l).find? (λ y=>y.1==x.1) with
 |none=>have:=zG.mp e x h;simp at this
 |some y=>have D:=wJ e;have G:=wt e;rw[n2 y G x h ↥D]
def Bn (h:say ls f t k w=some x):
  x∈ls/\aD x.2=w/\((f=3/\((ag x.2=6/\aF x.2=t)\/((ag x.2=7\/ag x.2=8)/\aF x.2∈bF ls k)))\/(¬f=3/\((ag x.2=9/\aF x.2=t)\/(ag x.2=10/\aF x.2∈bF ls k)))):=by
 unfold say at h;by_cases q:f=3
 ·rw[aA q] at h;unfold gj at h;cases ap:bm (cH 6 t w) ls with
  |some y=>rw[ap] at h;cases h;obtain⟨D,G⟩:=gM ap;obtain⟨a',a5,bn⟩:=h4.mp G;exact⟨D,bn,Or.inl ⟨q,Or.inl ⟨a',a5⟩⟩⟩
  |none=>
   rw[ap,tB] at h;cases ao:eR ls 7 k w with
   |some y=>rw[ao] at h;cases h;obtain⟨a',a5,bn,cx⟩:=qy ao;exact⟨a',bn,Or.inl ⟨q,Or.inr ⟨Or.inl a5,cx⟩⟩⟩
   |none=>rw[ao,tB] at h;obtain⟨a',a5,bn,cx⟩:=qy h;exact⟨a',bn,Or.inl ⟨q,Or.inr ⟨Or.inr a5,cx⟩⟩⟩
 ·rw[ay q] at h;unfold hG at h;cases ap:bm (cH 9 t w) ls with
  |some y=>rw[ap] at h;cases h;obtain⟨D,G⟩:=gM ap;obtain⟨a',a5,bn⟩:=h4.mp G;exact⟨D,bn,Or.inr ⟨q,Or.inl ⟨a',a5⟩⟩⟩
  |none=>rw[ap,tB] at h;obtain⟨a',a5,bn,cx⟩:=qy h;exact⟨a',bn,Or.inr ⟨q,Or.inr ⟨a5,cx⟩⟩⟩
def ab9:kindSaid (⇑6 l) (lineNo (say (⇑6 l) f t k w)) k=kindS (say (⇑6 l) f t k w) k:=by
 cases e:say (⇑6 l) f t k w with
 |none=>
  unfold kindSaid lineNo;cases q:(⇑6 l).find? (λ x=>x.1==0) with
  |none=>rfl
  |some y=>
   have D:=wJ q;have G:=Sa (wt q);have an:y.1=0:=by simpa using D
   omega
 |some x=>
  obtain⟨D,G,an⟩:=Bn e;unfold kindSaid lineNo kindS;rw[ab8 D];dsimp only;have b3:ag x.2=6\/ag x.2=7\/ag x.2=8\/ag x.2=9\/ag x.2=10:=by
   rcases an with⟨_,⟨B,_⟩|⟨B|B,_⟩⟩|⟨_,⟨B,_⟩|⟨B,_⟩⟩;·exact .inl B
   ·exact .inr (Or.inl B)
   ·exact .inr (Or.inr (Or.inl B))
   ·exact .inr (Or.inr (Or.inr (Or.inl B)))
   ·exact .inr (Or.inr (Or.inr (Or.inr B)))
  cases q:x.2<;>rw[q] at b3<;>first|rfl|(simp[ag] at b3)
def aca (W:World l)(ab:bm (cg 1 (k' (⇑6 l) k)) (⇑6 l)=some r):ground (⇑6 l) k=(b' (⇑6 l) 2 k).map (·.1)++[r.1]:=by
 have ak:=A3 W.calm.lY k;unfold ground;dsimp only;rw[ak];have ap:(((0,k)::b' (⇑6 l) 2 k:List (Nat×Bytes)).drop 1)=b' (⇑6 l) 2 k:=rfl;rw[ap];congr 1;cases e:((0,k)::b' (⇑6 l) 2 k:List (Nat×Bytes)).getLast? with
 |none=>simp at e
 |some y=>
  have dQ:y.2=k' (⇑6 l) k:=by
   have G:(((0,k)::b' (⇑6 l) 2 k:List (Nat×Bytes)).map (·.2)).getLast? =some y.2:=by rw[DR,e];rfl
   have an:((0,k)::b' (⇑6 l) 2 k:List (Nat×Bytes)).map (·.2)=bF (⇑6 l) k:=rfl;rw[an] at G;unfold k';rw[Nr (show bF (⇑6 l) k≠[] from oS _ _)] at G;exact(eV G).symm
  dsimp only;have ao:∀g:Sen->Bool,(∀s,g s=cg 1 y.2 s)->lineOf (⇑6 l) g=some r.1:=by intro g bL;unfold lineOf;rw[lX,jh (q:=cg 1 y.2) (λ x _=>bL x.2),dQ,ab];rfl
  rw[ao _ (λ s=>by cases s<;>first|rfl|simp[cg,ag,aF])]
def Sb (h:isLet ls f k w=true):∃i,hi ls f k w=some i:=by rw[<-m1] at h;exact jy.mp h
def Sd (W:World l)(aS:f=3\/f=4)(ax:a7 (⇑6 l) 5 t=some (n,k))(ah:hi (⇑6 l) f k w=some m6):
  ∃i r,hi (⇑6 l) f (kindS (say (⇑6 l) f t k w) k) w=some i/\bm (cg 1 (k' (⇑6 l) k)) (⇑6 l)=some r/\
   reasons (⇑6 l) t k (lineNo (say (⇑6 l) f t k w)) (hi (⇑6 l) f (kindSaid (⇑6 l) (lineNo (say (⇑6 l) f t k w)) k) w)=
    sortNums ((b' (⇑6 l) 2 k).map (·.1)++[n]++[i]++[r.1]++(if 0<lineNo (say (⇑6 l) f t k w) then[lineNo (say (⇑6 l) f t k w)] else[])):=by
 obtain⟨r,ab⟩:=W.root (W.there ax);have aj:∃i,hi (⇑6 l) f (kindS (say (⇑6 l) f t k w) k) w=some i:=by
  cases e:say (⇑6 l) f t k w with
  |none=>exact⟨m6,ah⟩
  |some x=>
   unfold kindS;dsimp only;by_cases q:ag x.2=6\/ag x.2=9;·rw[aA q];exact⟨m6,ah⟩
   ·rw[ay q];obtain⟨D,G,an⟩:=Bn e;have Se:=W.Gp x D;rcases an with⟨g,⟨B,_⟩|⟨B,_⟩⟩|⟨g,⟨B,_⟩|⟨B,_⟩⟩
    ·exact absurd (Or.inl B) q
    ·rw[g,<-G];exact Sb (ab6 Se B)
    ·exact absurd (Or.inr B) q
    ·rw[aS.resolve_left g,<-G];exact Sb (ab7 Se B)
 obtain⟨i,aj⟩:=aj;refine⟨i,r,aj,ab,?_⟩;unfold reasons;rw[ab9,aj,uu,ax,aca W ab];refine aas λ x=>?_;by_cases q:lineNo (say (⇑6 l) f t k w)=0
 ·rw[aA q,ay ⇑1];simp only[eJ,bN,kS,kT];constructor
  ·rintro(h|h|h|h|h)
   ·exact .inl (Or.inl (Or.inr h))
   ·exact .inl (Or.inr h)
   ·exact absurd h ⇑2
   ·exact .inl (Or.inl (Or.inl h))
   ·exact .inr h
  ·rintro(((h|h)|h)|h)
   ·exact .inr (Or.inr (Or.inr (Or.inl h)))
   ·exact .inl h
   ·exact .inr (Or.inl h)
   ·exact .inr (Or.inr (Or.inr (Or.inr h)))
 ·rw[ay q,aA ⇑1];simp only[eJ,bN,kS,kT];constructor
  ·rintro(h|h|h|h|h)
   ·exact .inl (Or.inl (Or.inl (Or.inr h)))
   ·exact .inl (Or.inl (Or.inr h))
   ·exact .inr h
   ·exact .inl (Or.inl (Or.inl (Or.inl h)))
   ·exact .inl (Or.inr h)
  ·rintro((((h|h)|h)|h)|h)
   ·exact .inr (Or.inr (Or.inr (Or.inl h)))
   ·exact .inl h
   ·exact .inr (Or.inl h)
   ·exact .inr (Or.inr (Or.inr (Or.inr h)))
   ·exact .inr (Or.inr (Or.inl h))
theorem Sf (sep:Nat):∀(l:Bytes)(c:Nat),split sep (l++[c])=if c=sep then split sep l++[[]] else(split sep l).dropLast++[(split sep l).getLastD []++[c]]
 |[],c=>by show(if c=sep then[]::split sep [] else match split sep [] with|l::ls=>(c::l)::ls|[]=>[[c]])=_;split<;>rfl
 |x::l,c=>by
  have ih:=Sf sep l c;show(if x=sep then[]::split sep (l++[c]) else match split sep (l++[c]) with|l::ls=>(x::l)::ls|[]=>[[x]])=_;have aX:=k6 sep l;by_cases aa:x=sep
  ·subst aa;have e:split x (x::l)=[]::split x l:=qw l;rw[aA z,ih,e];by_cases ak:c=x
   ·rw[aA ak,aA ak];rfl
   ·rw[ay ak,ay ak];generalize split x l=B at aX⊢;cases B with
    |nil=>exact absurd z aX
    |cons w ws=>rfl
  ·rw[ay aa,ih];cases cD:split sep l with
   |nil=>exact absurd cD aX
   |cons w ws=>
    have e:=pi aa cD;rw[e];by_cases ak:c=sep;·rw[aA ak,aA ak];rfl
    ·rw[ay ak,ay ak];cases ws with
     |nil=>rfl
     |cons cz ak4=>rfl
def c3 (ls:List Bytes):List (Option Sen):=ls.dropLast.map readLine++(if (ls.getLastD []).isEmpty=true then[] else[none])
def l4 (b:Bytes):List (Option Sen):=c3 (split 10 b)
theorem Sg:∀(ls:List Bytes)(n:Nat),ls≠[]->(∃ss,c3 ls=ss.map some/\readLines n ls=.ok ss)\/
  ∃i,(c3 ls)[i]?=some none/\(∀j,j<i->∃s,(c3 ls)[j]?=some (some s))/\readLines n ls=.error (n+i)
 |[],_,h=>absurd z h
 |[l],n,_=>by
  unfold c3 readLines;by_cases h:l.isEmpty=true;·exact .inl ⟨[],by simp[h],by simp[h]⟩
  ·exact .inr ⟨0,by simp[h],λ j a0=>by omega,by simp[h]⟩
 |l::m::r,n,_=>by
  have cD:c3 (l::m::r)=readLine l::c3 (m::r):=by unfold c3;rfl
  rw[cD];show(∃ss,_/\(match readLine l with
   |none=>Except.error n
   |some s=>match readLines (n+1) (m::r) with
    |.ok ss=>.ok (s::ss)
    |.error k=>.error k)=_)\/∃i,_/\_/\(match readLine l with
   |none=>Except.error n
   |some s=>match readLines (n+1) (m::r) with
    |.ok ss=>.ok (s::ss)
    |.error k=>.error k)=_
  cases e:readLine l with
  |none=>exact .inr ⟨0,z,λ j a0=>by omega,z⟩
  |some s=>
   rcases Sg (m::r) (n+1) (oS _ _) with⟨ss,D,G⟩|⟨i,D,G,an⟩;·exact .inl ⟨s::ss,by rw[D];rfl,by rw[G]⟩
   ·refine Or.inr ⟨i+1,by rw[wu];exact D,λ j a0=>?_,by rw[an];dsimp only;congr 1;omega⟩;cases j with
    |zero=>exact⟨s,z⟩
    |succ j=>rw[wu];exact G j ⇑1
def m7 (b):(∃ss,l4 b=ss.map some/\Vbtaae.read b=.ok ss)\/
  ∃i,(l4 b)[i]?=some none/\(∀j,j<i->∃s,(l4 b)[j]?=some (some s))/\Vbtaae.read b=.error (i+1):=by
 rcases Sg (split 10 b) 1 (k6 10 b) with h|⟨i,D,G,an⟩;·exact .inl h
 ·exact .inr ⟨i,D,G,by unfold Vbtaae.read;rw[an];congr 1;omega⟩
theorem split_len (sep:Nat):∀b:Bytes,(split sep b).length<=b.length+1
 |[]=>bG _
 |c::r=>by
  have ih:=split_len sep r;unfold split;by_cases h:c=sep;·rw[aA h];simp only[cJ];omega
  ·rw[ay h];cases e:split sep r with
   |nil=>simp
   |cons l ls=>rw[e] at ih;simp only[cJ] at ih⊢;omega
def Sh {ss:List Sen}(h:l4 b=ss.map some):∀s∈ss,cE s:=by
 intro s au;have D:some s∈l4 b:=by rw[h];exact cd.mpr ⟨s,au,z⟩
 unfold l4 c3 at D;rcases eJ.mp D with D|D
 ·obtain⟨_,_,e⟩:=cd.mp D;exact RG e
 ·split at D
  ·cases D
  ·simp at D
def Si (h:PyFlat.row r=some (x,t)):r=(x.length:Int)::(x++t):=by
 cases r with
 |nil=>cases h
 |cons n r=>
  unfold PyFlat.row at h;dsimp only at h;by_cases q:0<=n/\n.toNat<=r.length
  ·rw[aA q] at h;cases h;rw[oM,c5,rp q.2,NZ q.1]
  ·rw[ay q] at h;cases h
def acb (h:PyFlat.calls sh f (p::r)=some cs):
  ∃iF c t m8,f=iF+1/\PyFlat.call sh (p::r)=some (c,t)/\PyFlat.calls sh iF t=some m8/\cs=c::m8:=by
 cases f with
 |zero=>cases h
 |succ f=>
  unfold PyFlat.calls at h;cases e:PyFlat.call sh (p::r) with
  |none=>rw[e] at h;cases h
  |some es=>
   rw[e] at h;dsimp only at h;cases ao:PyFlat.calls sh f es.2 with
   |none=>rw[ao] at h;cases h
   |some m8=>rw[ao] at h;cases h;exact⟨f,es.1,es.2,m8,z,z,ao,z⟩
def acc:∀c,PyVbtaae.whole c=c
 |[]=>rfl
 |[]::_=>rfl
 |(a::b)::t=>by
  by_cases h:a∈[0,1,2,3,4,5,6,7,8,9,10,11,12,13,14,15,16]
  ·have:∀a∈[(0:Int),1,2,3,4,5,6,7,8,9,10,11,12,13,14,15,16],∀b t,PyVbtaae.whole ((a::b)::t)=(a::b)::t:=by repeat' (first|exact List.forall_mem_nil _|refine List.forall_mem_cons.mpr ⟨?_,?_⟩|exact λ|[],[]|[],[_]|[],[_,_]|[],_::_::_::_|[_],[]|[_],_::_|[_,_],[]|[_,_],_::_|_::_::_::_,_=>rfl)
   exact this a h b t
  ·delta PyVbtaae.whole PyVbtaae.whole.match_1;dsimp only[PyVbtaae.whole._sparseCasesOn_1];simp only[List.mem_cons,not_or] at h;simp only[h,↓reduceDIte]
def Sj (h:PyFlat.rows 1 r=some (xs,t)):∃x,xs=[x]/\r=(x.length:Int)::(x++t):=by
 unfold PyFlat.rows at h;cases e:PyFlat.row r with
 |none=>rw[e] at h;cases h
 |some uH=>rw[e] at h;cases h;exact⟨uH.1,z,Si e⟩
def acd (h:PyFlat.rows 2 r=some (xs,t)):∃x y,xs=[x,y]/\r=(x.length:Int)::(x++(y.length:Int)::(y++t)):=by
 unfold PyFlat.rows at h;cases e:PyFlat.row r with
 |none=>rw[e] at h;cases h
 |some uH=>
  rw[e] at h;dsimp only at h;cases ao:PyFlat.rows 1 uH.2 with
  |none=>rw[ao] at h;cases h
  |some ak5=>rw[ao] at h;cases h;obtain⟨y,D,G⟩:=Sj ao;exact⟨uH.1,y,by rw[D],by rw[Si e,G]⟩
inductive m9:List Int->List (List Int)->List Int->Prop
 |bare (p:Int) (t:List Int) (h:p=4\/p=5\/p=6\/p=7\/p=8):m9 (p::t) [[p]] t
 |cut (n:Int) (t:List Int):m9 (2::n::t) [[2,n]] t
 |swap (n m:Int) (t:List Int):m9 (3::n::m::t) [[3,n,m]] t
 |row (p:Int) (x t:List Int) (h:p=0\/p=1\/p=9\/p=10\/p=13\/p=14\/p=15\/p=16) (aa:x.length<=4010):m9 (p::(x.length:Int)::(x++t)) [[p],x] t
 |two (p:Int) (x y t:List Int) (h:p=11\/p=12) (aa:x.length<=4010) (aC:y.length<=4010):m9 (p::(x.length:Int)::(x++(y.length:Int)::(y++t))) [[p],x,y] t
def ace (h:PyFlat.call PyVbtaae.shape (p::r)=some (c,t))(az:VbtaaeNeutral.asked1 c=true):m9 (p::r) c t:=by
 unfold PyFlat.call at h;dsimp only at h;have key:∀(n k:Nat),PyVbtaae.shape p=some (n,k)->∃xs,¬r.length<n/\PyFlat.rows k (r.drop n)=some (xs,t)/\c=(p::r.take n)::xs:=by
  intro n k e;rw[e] at h;dsimp only at h;by_cases q:r.length<n;·rw[aA q] at h;cases h
  ·rw[ay q] at h;cases ao:PyFlat.rows k (r.drop n) with
   |none=>rw[ao] at h;cases h
   |some uH=>rw[ao] at h;cases h;exact⟨uH.1,q,z,z⟩
 have bare:PyVbtaae.shape p=some (0,0)->(p=4\/p=5\/p=6\/p=7\/p=8)->m9 (p::r) c t:=by intro e ar;obtain⟨xs,_,G,an⟩:=key 0 0 e;have G:=G;cases G;rw[an];exact .bare p r ar
 have qz:PyVbtaae.shape p=some (0,1)->(p=0\/p=1\/p=9\/p=10\/p=13\/p=14\/p=15\/p=16)->m9 (p::r) c t:=by
  intro e ar;obtain⟨xs,_,G,an⟩:=key 0 1 e;obtain⟨x,aU,bY⟩:=Sj G;have bY:r=(x.length:Int)::(x++t):=bY;have an:c=[[p],x]:=by rw[an,aU];rfl
  have ah:x.length<=4010:=by rw[an] at az;rcases ar with e|e|e|e|e|e|e|e<;>(rw[e] at az;have az:=(dF _ _▸az:_/\_).1;simpa using az)
  rw[an,bY];exact .row p x t ar ah
 have Sk:PyVbtaae.shape p=some (0,2)->(p=11\/p=12)->m9 (p::r) c t:=by
  intro e ar;obtain⟨xs,_,G,an⟩:=key 0 2 e;obtain⟨x,y,aU,bY⟩:=acd G;have bY:r=(x.length:Int)::(x++(y.length:Int)::(y++t)):=bY;have an:c=[[p],x,y]:=by rw[an,aU];rfl
  have ah:x.length<=4010/\y.length<=4010:=by rw[an] at az;rcases ar with e|e<;>(rw[e] at az;have az:(decide (x.length<=4010)&&(decide (y.length<=4010)&&_))=true:=az;simp only[dF,fG] at az;exact⟨az.1,az.2.1⟩)
  rw[an,bY];exact .two p x y t ar ah.1 ah.2
 by_cases Gq:p=0;·exact qz (by rw[Gq];rfl) (by rw[Gq];decide)
 by_cases q1:p=1;·exact qz (by rw[q1];rfl) (by rw[q1];decide)
 by_cases bb:p=2
 ·obtain⟨xs,D,G,an⟩:=key 1 0 (by rw[bb];rfl);cases r with
  |nil=>simp at D
  |cons n r=>have G:=G;cases G;rw[an,bb];exact .cut n _
 by_cases eF:p=3
 ·obtain⟨xs,D,G,an⟩:=key 2 0 (by rw[eF];rfl)
  match r,D,G,an with
  |[],D,_,_=>simp at D
  |[_],D,_,_=>simp at D
  |n::m::r,D,G,an=>have G:=G;cases G;rw[an,eF];exact .swap n m _
 by_cases qe:p=4;·exact bare (by rw[qe];rfl) (by rw[qe];decide)
 by_cases Gr:p=5;·exact bare (by rw[Gr];rfl) (by rw[Gr];decide)
 by_cases kW:p=6;·exact bare (by rw[kW];rfl) (by rw[kW];decide)
 by_cases iP:p=7;·exact bare (by rw[iP];rfl) (by rw[iP];decide)
 by_cases xy:p=8;·exact bare (by rw[xy];rfl) (by rw[xy];decide)
 by_cases ql:p=9;·exact qz (by rw[ql];rfl) (by rw[ql];decide)
 by_cases x7:p=10;·exact qz (by rw[x7];rfl) (by rw[x7];decide)
 by_cases Gs:p=11;·exact Sk (by rw[Gs];rfl) (by rw[Gs];decide)
 by_cases Gu:p=12;·exact Sk (by rw[Gu];rfl) (by rw[Gu];decide)
 by_cases Gv:p=13;·exact qz (by rw[Gv];rfl) (by rw[Gv];decide)
 by_cases Gw:p=14;·exact qz (by rw[Gw];rfl) (by rw[Gw];decide)
 by_cases Gx:p=15;·exact qz (by rw[Gx];rfl) (by rw[Gx];decide)
 by_cases Gy:p=16;·exact qz (by rw[Gy];rfl) (by rw[Gy];decide)
 exfalso;have:PyVbtaae.shape p=none:=by unfold PyVbtaae.shape;simp[Gq,q1,bb,eF,qe,Gr,kW,iP,xy,ql,x7,Gs,Gu,Gv,Gw,Gx,Gy]
 rw[this] at h;cases h
def acf (h:PyVbtaae.answers_asked l=true):∃cs,PyFlat.calls PyVbtaae.shape l.length l=some cs/\(∀c∈cs,VbtaaeNeutral.asked1 c=true)/\cs.length<=60/\
  PyVbtaae.answers l=PyFlat.told (PyFlat.played VbtaaeNeutral.step VbtaaeNeutral.start cs):=by
 unfold PyVbtaae.answers_asked at h;unfold PyVbtaae.answers;unfold PyVbtaae.calls at h⊢;cases e:PyFlat.calls PyVbtaae.shape l.length l with
 |none=>rw[e] at h;cases h
 |some cs=>
  have hw:cs.map PyVbtaae.whole=cs:=by rw[show PyVbtaae.whole=id from funext acc,wT]
  rw[e] at h;dsimp only at h⊢;rw[hw] at h⊢;unfold VbtaaeNeutral.asked at h;simp only[dF,hq,fG] at h;exact⟨cs,z,h.2.1,h.2.2.2,z⟩
end M
end
section
namespace PySem
section
variable{prog:Program}{w:World}{K:Type}[DecidableEq K]{knd:HeapKind prog w K}{A:Around}{E:Value->Shared->Prop}{s:Shared}{d a:Addr}{k:K}{xs:List (K×Addr×Value)}
def acg (a1:knd.room A)(rQ:knd.is s.heap k a)(hm:s.heap.DictOfH knd d xs)
  (ach:∀p,atKey xs k=some p->Q p.2 {s with toks:=s.toks+knd.draws k})
  (r5:atKey xs k=none->∀h',h'.DictOfH knd d (storedH xs k a dflt)->Heap.SameBut d s.heap h'->Q dflt {s with heap:=h',toks:=s.toks+knd.draws k})
  (hsz:xs.length<=sizeLine):⇑5 (dictSetDefault d (.ref a) dflt) Q E s:=by
 obtain⟨_,_,ep,aT,ak,hd,a3,Sl,aB⟩:=hm;unfold dictSetDefault
 try with_reducible refine hs ?_
 refine aL (knd.pyHash a1 rQ ?_);refine aL (wpAny_dictFind_heap (s:={s with toks:=s.toks+knd.draws k}) a1 rQ aT hd a3 Sl aB ?_ ?_)
 ·intro dK;have aci:=not_mem_keys_of_get dK;refine aL (lA (aL (wpAny_updateDictKeys (hz:=by have e:=size_of_entries a3;omega) (s:={s with toks:=s.toks+knd.draws k}) aT hd (bq (r5 (zK dK) _ ⟨_,_,ep+1,rk _ aT (Obj.isFreed_of_dict (Obj.data_mapDictKeys hd _)),
   ak.mapDictKeys _,Obj.data_mapDictKeys hd _,?_,?_,?_⟩ (wF ..))))))
  ·rw[storedH_new (zK dK)];simp[a3,entryOfKey]
  ·rw[storedH_new (zK dK)];intro x aa;rcases eJ.mp aa with aa|aa
   ·exact knd.keeps (Sl x aa) aT hd (wF ..)
   ·simp only[dL] at aa;subst aa;exact knd.keeps rQ aT hd (wF ..)
  ·rw[storedH_new (zK dK)];rw[db,zJ];refine⟨aB,⇑2,?_⟩;intro x aa _ aC;simp only[bU,dc,dL] at aC;subst aC;exact λ e=>aci (e▸aa)
 ·intro j p a0;have uI:=atKey_of_get aB a0;refine aL (wpAny_dictEntries (s:={s with toks:=s.toks+knd.draws k}) aT hd ?_);rw[entry_at a3 j,a0];exact aL (lA (bq (ach p uI)))
end
section
variable{prog:Program}{w:World}{K:Type}[DecidableEq K](knd:HeapKind prog w K)(d a:Addr)
def Sm (hd:(d==sysModules)=false)(dflt:Value):
  MeetsIn prog w (Builtin.«dict.setdefault» ⟨[.ref d,.ref a,dflt],[]⟩) (λ A R s=>knd.room A.in1/\∃k xs,knd.is s.heap k a/\s.heap.DictOfH knd d xs/\xs.length<=sizeLine/\
   (∀p,atKey xs k=some p->R (.ok (.ret p.2)) {s with toks:=s.toks+knd.draws k})/\
   (atKey xs k=none->∀h',h'.DictOfH knd d (storedH xs k a dflt)->Heap.SameBut d s.heap h'->R (.ok (.ret dflt)) {s with heap:=h',toks:=s.toks+knd.draws k})):=
 .of_wp λ A R s ⟨a1,k,xs,rQ,hm,hz,D,G⟩=>by unfold Builtin.«dict.setdefault»;refine aL ?_;unfold Builtin.Dict.keyAndDefault;refine aL (Oo hm.typeIs ?_);refine bq ?_;show wpAny _ _ (if (d==sysModules)=true then _ else(dictSetDefault d (.ref a) dflt >>= _)) _ _ s;rw[ay (by rw[hd];exact eo)];exact aL (acg a1 rQ hm (λ p ar=>bq ⟨p.2,z,D p ar⟩) (λ aB h' sj la=>bq ⟨dflt,z,G aB h' sj la⟩) hz)
end
end PySem
namespace ef
open PySem PySem.Spec PyProof.Rows
def jZ (H:aP)(a:Addr)(y B:V)(Q:d7):Prop:=(∃v,dV H a y (some v)/\Q v H)\/(dV H a y none/\∃J,jP H a y B J/\Q B J)
section
variable{X:bE}{ac:List (Addr×Obj)}{L:St}{H:aP}{s:Shared}{a:Addr}{y B:V}{u r:Value}{A:Around}{E:Value->Shared->Prop}
def acj (a1:A.units+1<cLine)(I:Inv X ac L H s)(g:jZ H a y B Q)(bo:RelV y u)(nW:RelV B r)(h:∀v J w' aV,Inv X ac L J aV->RelV v w'->Q v J->ack w' aV):
  wpAny (model X.prog X.w) A (call (.builtin "dict.setdefault") [.ref a,u,r]) ack E s:=by
 rcases g with⟨v,g,q⟩|⟨g,J,a5,q⟩
 ·rcases g with⟨aw,k,e,dQ,l⟩|⟨aw,k,b,e,dQ,di,l⟩
  ·subst dQ;obtain⟨hz,hd,vs,dj,cS⟩:=qm I.bi e;obtain⟨w',hw,hc⟩:=gC.some_of (v:=v) (o:=valueAt vs k) (by rw[l];exact dj.val k);refine rv wr cS.typeIs zw (zv _ _ _) (kt_meets_setdefault (dT X.prog X.w) a (k2 bo) hd r)
    ⟨vs,cS,by rw[<-dj.length];exact hz,λ w7 nS=>?_,λ aB=>?_⟩
   ·rw[hw] at nS;cases nS;exact h v H w' _ (I.tok _) hc q
   ·rw[hw] at aB;cases aB
  ·subst dQ;cases (show u=Value.ref b from bo);obtain⟨hz,hd,xs,dj,cS⟩:=qn I.bi e;obtain⟨w',hw,hc⟩:=gC.some_of (v:=v) (o:=(atKey xs k).map (·.2)) (by rw[l];exact dj.val k);refine rv wr cS.typeIs zw (zv _ _ _) (Sm (tupleKind (dT X.prog X.w)) a b hd r)
    ⟨rm a1,k,xs,dr I.bi di,cS,by rw[<-tF dj];exact hz,λ p ar=>?_,λ aB=>?_⟩
   ·rw[ar] at hw;have ao:p.2=w':=eV hw;rw[ao];exact h v H w' _ (I.tok _) hc q
   ·rw[aB] at hw;cases hw
 ·rcases a5 with⟨aw,k,e,dQ,l,r1⟩|⟨aw,k,b,e,dQ,di,l,r1⟩
  ·subst dQ r1;obtain⟨hz,hd,vs,dj,cS⟩:=AB I.bi e;have aB:b4 aw k=none:=by
    rcases g with⟨m_,hW,bW,uJ,iG⟩|⟨m_,hW,AI,bW,uJ,Gz,iG⟩
    ·have h9:=Fg uJ;subst h9;have:m_=aw:=by
      rcases bW with bW|⟨o,bW⟩;·rw[e] at bW;cases bW;rfl
      ·rw[e] at bW;cases bW
     subst this;exact iG.symm
    ·rcases bW with bW|⟨o,bW⟩
     ·rw[e] at bW;cases bW
     ·rw[e] at bW;cases bW
   have ba:=gC.none_of (by rw[<-aB];exact dj.val k);have ah:(putK aw k B).length<=sizeLine:=by have:=uh aw k B;omega
   refine rv wr cS.typeIs zw (zv _ _ _) (kt_meets_setdefault (dT X.prog X.w) a (k2 bo) hd r)
    ⟨vs,cS,by rw[<-dj.length];exact hz,λ w7 nS=>?_,λ _ h' lP au=>?_⟩
   ·rw[ba] at nS;cases nS
   ·have a3:∃q,h'.get? a=some q:=let ⟨q,_,_,aK,_⟩:=lP;⟨q,aK⟩;exact h B _ r _ (xA I (by rw[e];exact True.intro) au a3 (Fh ah hd (dj.put k nW) lP)) nW q
  ·subst dQ r1;cases (show u=Value.ref b from bo);obtain⟨hz,hd,xs,dj,cS⟩:=PT I.bi e;have aB:b4 aw k=none:=by
    rcases g with⟨m_,hW,bW,uJ,iG⟩|⟨m_,hW,AI,bW,uJ,Gz,iG⟩;·cases hW<;>cases uJ
    ·have acl:b=AI:=by cases uJ;rfl
     subst acl;rw[di] at Gz;have h9:=PQ (by have:=eV Gz;injection this);subst h9;have:m_=aw:=by
      rcases bW with bW|⟨o,bW⟩;·rw[e] at bW;cases bW;rfl
      ·rw[e] at bW;cases bW
     subst this;exact iG.symm
   have ba:=gC.none_of (by rw[<-aB];exact dj.val k);have GA:=tl.mp ba;have ah:(putK aw k B).length<=sizeLine:=by have:=uh aw k B;omega
   refine rv wr cS.typeIs zw (zv _ _ _) (Sm (tupleKind (dT X.prog X.w)) a b hd r)
    ⟨rm a1,k,xs,dr I.bi di,cS,by rw[<-tF dj];exact hz,λ p ar=>?_,λ _ h' lP au=>?_⟩
   ·rw[GA] at ar;cases ar
   ·obtain⟨eL,ae,ep,aK,G,an,aU,_,bY⟩:=lP;refine h B _ r _ (xA (ob:=.e7 (putK aw k B)) I (by rw[e];exact True.intro) au ⟨eL,aK⟩ ⟨ah,hd,_,(dj.put k di nW).keeps λ _ _ mW=>?_,eL,ae,ep,aK,G,an,aU,bY⟩) nW q;rw[dv (cw mW e (λ B=>nomatch B))];exact mW
end
inductive acmj(ty:TE)(bu:TE)(L:St)(Q:d7)(x:V)(H1:aP):Prop|mk a:x=.ref a->Fp H1 a->(ty L H1 λ y aE=>bu L aE λ B bj=>jZ bj a y B Q)->acmj ty bu L Q x H1
def acm (cR ty bu:TE):TE:=λ L H Q=>cR L H (acmj ty bu L Q)
def Bo (a1:X.A.units+1<cLine)(aT:a9 X o cR)(a3:a9 X e ty)(aS:a9 X f bu)(m:M2 X o "setdefault" d1 e f gh):a9 X (.Call (.Attribute o "setdefault" d1) [e,f] [] gh) (acm cR ty bu):=by
 intro ac s L H _ I h;refine D4 m.base m.jR m.line DD wr PySem.F.type_dict_setdefault (bC (aT s L H _ I h) λ u al ⟨_,H1,a4,bt,a,ex,d,q1⟩=>?_);subst ex;obtain rfl:u=Value.ref a:=bt;obtain⟨fR,cG,_⟩:=P0 a4 d;refine⟨fR,cG,?_⟩;rw[m.trees];refine to z (wD (nE (bC (a3 al L H1 _ a4 q1) λ _ aq ⟨_,aE,b8,bo,bb⟩=>nE (bC (aS aq L aE _ b8 bb) λ _ _ ⟨_,_,dM,nW,g⟩=>p2 ?_))))
 exact acj a1 dM g bo nW λ v J _ _ jb hc q=>⟨v,J,jb,hc,q⟩
end ef
end
section
namespace ef
open PySem PySem.Spec PyProof.Rows
def l5 (K:Frag)(a:Addr)(aw:List (Key×V)):Prop:=(a==sysModules)=false/\∃o ae ep,K.lookup a=some o/\o.ExactDict/\o.data=.dict ae ep/\∀P w,∃vs:List (Key×Value),e6 aw vs/\KeysOf (dT P w) ae/\Pairs (dT P w) ae.toList vs/\(vs.map (·.1)).Nodup
section
variable{X:bE}{ac:List (Addr×Obj)}{L:St}{H:aP}{s:Shared}{a:Addr}{aw:List (Key×V)}
def Bp (I:Inv X ac L H s)(h:l5 X.K a aw):∃vs,e6 aw vs/\s.heap.DictOf (dT X.prog X.w) a vs:=by obtain⟨_,o,ae,ep,D,G,an,aU⟩:=h;obtain⟨vs,r,f3,cU,f5⟩:=aU X.prog X.w;exact⟨vs,r,o,ae,ep,I.iN a o D,G,an,f3,cU,f5⟩
end
inductive acnj(K:Frag)(Q:d7)(x y:V)(aE:aP):Prop|mk a aw k v:x=.ref a->l5 K a aw->y=c0 k->b4 aw k=some v->Q v aE->acnj K Q x y aE
def acn (K:Frag)(cR ty:TE):TE:=λ L H Q=>cR L H λ x H1=>ty L H1 (acnj K Q x)
inductive acoj(K:Frag)(Q:d7)(y x:V)(aE:aP):Prop|mk a aw k:x=.ref a->l5 K a aw->y=c0 k->Q (.bg (!(b4 aw k).isSome)) aE->acoj K Q y x aE
def aco (K:Frag)(ty cR:TE):TE:=λ L H Q=>ty L H λ y H1=>cR L H1 (acoj K Q y)
def acp (K:Frag)(cR ty bu:TE):TE:=λ L H Q=>cR L H λ x H1=>∃a aw,x=.ref a/\l5 K a aw/\ty L H1 λ y aE=>bu L aE λ B bj=>∃k,y=c0 k/\Q ((b4 aw k).getD B) bj
section
variable{X:bE}{o i e f:Expr}{cR ty bu:TE}{pos d1 gh:Pos}
def uK (aT:a9 X o cR)(aj:a9 X i ty)(au:Fi i):a9 X (.Subscript o i pos) (acn X.K cR ty):=by intro ac s L H _ I h;refine PU Nu.lookup au (bC (aT s L H _ I h) λ u al ⟨_,H1,a4,bt,q1⟩=>bC (aj al L H1 _ a4 q1) λ _ _ ⟨_,aE,b8,bo,a,_,k,v,ex,g,dQ,l,bb⟩=>?_);subst ex dQ;obtain rfl:u=Value.ref a:=bt;obtain⟨vs,dj,cS⟩:=Bp b8 g;obtain⟨_,hw,hc⟩:=gC.some_of (v:=v) (o:=valueAt vs k) (by rw[<-l];exact dj.val k);exact⟨cS.typeIs,wpAny_getItem_of (k2 bo) cS.mapOf hw ⟨v,aE,b8.tok _,hc,bb⟩⟩
def acq (aj:a9 X i ty)(aT:a9 X o cR):tS X .NotIn i o (aco X.K ty cR):=by intro ac s L H _ I h;refine bC (aj s L H _ I h) λ _ al ⟨_,H1,a4,bo,q1⟩=>bC (aT al L H1 _ a4 q1) λ u _ ⟨_,aE,b8,bt,a,_,k,ex,g,dQ,bb⟩=>?_;subst ex dQ;obtain rfl:u=Value.ref a:=bt;obtain⟨_,dj,cS⟩:=Bp b8 g;refine wpAny_notIn_of (k2 bo) g.1 cS.mapOf ?_;rw[<-(dj.val k).ui];exact⟨.bg _,aE,b8.tok _,z,bb⟩
def acr (aT:a9 X o cR)(a3:a9 X e ty)(aS:a9 X f bu)(m:M2 X o "get" d1 e f gh):a9 X (.Call (.Attribute o "get" d1) [e,f] [] gh) (acp X.K cR ty bu):=by
 intro ac s L H _ I h;refine D4 m.base m.jR m.line DD wz NL (bC (aT s L H _ I h) λ u al ⟨_,H1,a4,bt,a,_,ex,g,q1⟩=>?_);subst ex;obtain rfl:u=Value.ref a:=bt;obtain⟨vs,dj,cS⟩:=Bp a4 g;refine⟨cS.typeIs,λ _ q=>?_,?_⟩
 ·cases q;obtain⟨ob,_,_,D,G,_⟩:=cS;exact⟨ob,D,G.2.1⟩
 rw[m.trees];refine to z (wD (nE (bC (a3 al L H1 _ a4 q1) λ _ aq ⟨_,aE,b8,bo,bb⟩=>nE (bC (aS aq L aE _ b8 bb) λ acs _ ⟨_,bj,dM,nW,k,dQ,eF⟩=>p2 ?_))))
 subst dQ;obtain⟨vs,dj,cS⟩:=Bp dM g;exact rv wz cS.typeIs DH (DC _ _ _) (Od (dT X.prog X.w) a (k2 bo) g.1 acs) ⟨_,cS.mapOf,⟨_,bj,dM.tok _,(dj.val k).getD nW,eF⟩⟩
end
inductive act(K:Frag)(vs:List V)(H:aP)(Q:d7):Prop|mk a ns:vs=[V.ref a]->aG K H a (ns.map V.int)->(∀(kz:List Int)(p:Addr),kz.Perm ns->kz.Pairwise (· <= ·)->H p=none->Q (.ref p) (upd H p (.lst (kz.map V.int))))->act K vs H Q
section
variable{X:bE}
def Sn:jF X (.builtin "sorted") (act X.K):=by
 intro _ s _ H _ _ _ I r h;obtain⟨_,_,rfl,au,q⟩:=h;obtain⟨aR,cv,ah,hz⟩:=I.list au;rw[Vals.xp r];have aj:=cv.ints;have uL:aR.length<=sizeLine:=by rw[<-cv.length];exact hz
 refine PyProof.Rows.sorted_intsAny ah.isList aj uL λ out kz D G an=>?_;obtain⟨ep,sk⟩:=PyProof.Rows.sortedAll_at s.heap aR out;have bR:(kz.map V.int).length<=sizeLine:=by rw[be,G.length_eq,<-aj.length];exact uL
 exact⟨.ref _,upd H (⇑s+1) (.lst (kz.map V.int)),I.laid (t':=s.toks) (λ _ _=>PyProof.Rows.sortedAll_old) (mz _) ⟨bR,out.toList,ep,E1 D,sk⟩,z,q kz _ G an (I.bi.fresh (mz _))⟩
end
end ef
end
section
namespace fV
open PySem PySem.Spec PyProof.Rows
section
variable{dU:Model}{A:Around}{E:Value->Shared->Prop}{s:Shared}{env:Env}
def acu {T:String}
  (run:wpAny dU A (spliced (backTo ps (starEach [e] env))) (λ us al=>wpAny dU A (evalAll ((backToKw ps (keywordEach Bq env)).map (·.2)))
   (λ ks aq=>wpAny dU A (call (.type T) us (((backToKw ps (keywordEach Bq env)).filterMap (·.1)).zip ks)) Q E aq) E al) E s)
  (D:backTo ps (starEach [e] env)=[(false,eval e env)]) (G:(backToKw ps (keywordEach Bq env)).all (·.1.isSome)=true) (an:(backToKw ps (keywordEach Bq env)).any (·.1.isNone)=false):
  wpAny dU A (callWith ps (.type T) [] (backTo ps (starEach [e] env)) (backToKw ps (keywordEach Bq env))) Q E s:=by
 have ar:(backTo ps (starEach [e] env)).any (·.1)=false:=by rw[D];rfl
 unfold callWith;rw[D] at run ar⊢;refine aL (hs (hu (evalArgs_kwB (Q:=λ a t=>wpAny dU A (call (.type T) ([]++a.pos) a.kw) Q E t) G run) (λ a t q=>aL (zU ?_)) λ _ _ B=>B));simp only[ar,an,zQ];refine aL (bq ?_);refine aL (hu q (λ _ _ ab=>?_) λ _ _ B=>B);exact aL (hs (wpAny_point (bq ab)))
end
section
variable{prog:Program}{w:World}{A:Around}{E:Value->Shared->Prop}{s:Shared}
open PySem.Sem (wp)
def acv {T j0:String}(l:typeLookup (.type T) "__init__"=pure (some (.builtin "object.__init__")))
  (m:Bind.madeBy (.type T)=pure (some j0)) (ne:(some j0 !=some "object.__new__")=true):
  Meets (Builtin.«object.__init__» ⟨acw::us,ks⟩) (λ _ R t=>t.TypeIs acw T/\R (.ok (.ret .none)) t):=by
 refine Meets.of_wp λ prog w A R t a_=>?_;obtain⟨aM,aK⟩:=a_;cases us with
 |nil=>
  cases ks with
  |nil=>exact bq ⟨_,z,aK⟩
  |cons k ks=>
   repeat (any_goals (first|assumption|wp_step))
   exact⟨_,z,aK⟩
 |cons a us=>
  repeat (any_goals (first|assumption|wp_step))
  exact⟨_,z,aK⟩
def acx {T j0:String}(fv:TypeCalled T j0 "object.__init__")
  (ne:(some j0 !=some "object.__new__")=true) (dp:checkTypeCall T ⟨us,ks⟩=pure ()) (dS:checkBuiltinCall j0 ⟨.type T::us,ks⟩=pure ())
  (fD:∀o,argsOk "object.__init__" ⟨o::us,ks⟩) (el:entryFor table j0=some acy) (g:Meets (acy ⟨.type T::us,ks⟩) S)
  (h:S A.in1 (wants (λ o t=>t.TypeIs o T/\Q o t) E) s):⇑5 (call (.type T) us ks) Q E s:=by
 obtain⟨c,bl,cD⟩:=fv.mro;have ap:=fv.made;have ao:=fv.sub;refine tL (Ea ?_);refine bq ⟨Code.quiet_builtin _ (by decide+kernel),ly F.entry_type_call ?_⟩;rw[Around.under_plain (Op T us ks) (units_type_call_type T us ks)];have bz:=fv.notType;have fe:=fv.canCreate
 repeat (any_goals (first|assumption|wp_step))
 refine oV (wE fv.plain el (tJ dS (g prog w A.in1 _ s h))) ?_;rintro(x|f8) t ab;·exact ab
 cases f8 with
 |ret o=>
  obtain⟨aM,aK⟩:=ab;have fT:=fv.init.lookup;have n4:=fv.init.bind o
  repeat (any_goals (first|assumption|wp_step))
  refine oV (wE fv.init.plain F.entry_object_init (fv.init.check _ _ _ _ _ _ _ _ aM (fD o) (acv fv.init.lookup fv.made ne prog w A.in1 (wants (λ r t'=>r=.none/\Q o t') E) t ⟨aM,z,aK⟩))) ?_;rintro(x|f8) t' GB;·exact GB
  cases f8 with
  |ret r=>
   obtain⟨rfl,iR⟩:=GB
   repeat (any_goals (first|assumption|wp_step))
  |_=>exact GB.elim
 |_=>exact ab.elim
def acz (a b):checkTypeCall "enumerate" ⟨[a],[("start",b)]⟩=pure ():=by kernel_rfl
def acA (a b):checkBuiltinCall "enumerate.__new__" ⟨[.type "enumerate",a],[("start",b)]⟩=pure ():=by kernel_rfl
def acB (o a b):argsOk "object.__init__" ⟨[o,a],[("start",b)]⟩:=by
 unfold argsOk;have e:Manifest.signature? "object.__init__"=_:=signature?_of (n:=['_','_','t','i','n','i','_','_']) (o:=['t','c','e','j','b','o']) (by kernel_rfl) F.owner_object;rw[e]
 kernel_rfl
def acC (l)(xs)(n)(n9)(GC)(tk):
  Meets (Builtin.«enumerate.__new__» ⟨[.type "enumerate",.ref l],[("start",.int 1 tk)]⟩) (λ _ R t=>t.heap.get? l=some {cls:=.type "list",dict:=n9,data:=.seq xs n,slots:=GC}/\
   R (.ok (.ret (.ref (t.heap.push {cls:=.type "list_iterator",data:=.fields #[.ref l,.int 0 0]}).objs.size)))
    {t with heap:=(t.heap.push {cls:=.type "list_iterator",data:=.fields #[.ref l,.int 0 0]}).push {cls:=.type "enumerate",data:=.fields #[.none,.bool false,.ref ⇑t,rawInt 1,.none,.none]}}):=by
 refine .of_wp λ prog w A R t ⟨ah,kn⟩=>?_;obtain⟨ar,g,d,AE,os⟩:=t;have acD:=sub_enumerate;have cq:Heap.IsList (Shared.heap ⟨ar,g,d,AE,os⟩) l xs:=⟨_,ah,z,n,z⟩
 wp_walk using AutoSeq1.wpAny_loadPart' ah
 refine wpAny_stack_any λ st=>bq ?_;split
 ·rename_i c _ _ _ _ _;cases (c==Value.type "enumerate")
  ·wp_walk using AutoSeq1.wpAny_loadPart' ah,p1 cq
   exact⟨_,z,kn⟩
  ·wp_walk using AutoSeq1.wpAny_loadPart' ah,p1 cq
   exact⟨_,z,kn⟩
 ·wp_walk using AutoSeq1.wpAny_loadPart' ah,p1 cq
  exact⟨_,z,kn⟩
end
section
variable{prog:Program}{w:World}{A:Around}{E:Value->Shared->Prop}{s:Shared}
def acE (cq:s.heap.IsList l xs)
  (go:∀G,IsEnum G (⇑s+1) ⇑s 1 .none->G.IsListIter ⇑s l 0->(∀b o,s.heap.get? b=some o->G.get? b=some o)->Q (.ref (⇑s+1)) {s with heap:=G}):
  ⇑5 (call (.type "enumerate") [.ref l] [("start",.int 1 tk)]) Q E s:=by
 obtain⟨⟨_,n9,_,GC⟩,hE,mW,n,m4⟩:=cq;have mW:=mW;have m4:=m4;subst mW m4;refine acx F.called_enumerate ⇑0 (acz _ _) (acA _ _) (λ o=>acB o _ _) F.entry_enumerate_new (acC l xs n n9 GC tk) ⟨hE,?_⟩;have iC:=g5 s.heap {cls:=.type "list_iterator",data:=.fields #[.ref l,.int 0 0]};rw[iC];have ap:=eU (s.heap.push {cls:=.type "list_iterator",data:=.fields #[.ref l,.int 0 0]})
  (o:={cls:=.type "enumerate",data:=.fields #[.none,.bool false,.ref ⇑s,rawInt 1,.none,.none]}) z
 rw[iC] at ap;refine⟨⟨_,ap,z⟩,go _ ap ⟨_,dq _ (eU _ z),z,z⟩ λ b o q=>?_⟩;exact dq _ (dq _ q)
def acF {Q:Value->Shared->Prop}
  (a3:IsEnum s.heap e bP k old) (aj:s.heap.IsListIter bP l i) (ah:s.heap.IsList l xs) (aa:xs[i]?=some x) (ne:e≠bP)
  (go:∀G,IsEnumOut G e bP (k+1) x ⇑s->G.IsListIter bP l (i+1)->G.get? ⇑s=some {cls:=.type "tuple",data:=.seq #[.int k s.toks,x]}->
   (∀b o,b≠e->b≠bP->s.heap.get? b=some o->G.get? b=some o)->Q (.ref ⇑s) {s with heap:=G,toks:=s.toks+1}):
  ⇑5 (Builtin.«enumerate.__next__» ⟨[.ref e],[]⟩) (λ cY t=>∃v,cY=.done (.ret v)/\Q v t) E s:=by
 obtain⟨ar,_,_,tk,_⟩:=s;show wpAny _ _ (field (.ref e) 2 >>= _) _ _ _;refine aL (tK a3 z (x:=.ref bP) z (aL (wpAny_nextOf_list_item aj ah aa λ kp fa (al:Heap.SameBut bP ar kp)=>?_)));have e':=(al.2 e ne).trans a3;refine aL (tK e' z (x:=rawInt k) z ?_);refine aL (tK e' z (x:=.none) z ?_);refine aL (wpAny_mkInt ?_);refine aL (mw e' ⇑2 λ mZ (eZ:IsEnum mZ e bP (k+1) old)(aq:Heap.SameBut e kp mZ)=>?_);refine aL (mw eZ ⇑2 λ l6 (eh:IsEnum l6 e bP (k+1) old)(aO:Heap.SameBut e mZ l6)=>?_);refine aL (wpAny_newTuple ?_);have uM:l6.objs.size=ar.objs.size:=by rw[aO.1,aq.1,al.1]
 have lt:=c2 a3;have fl:IsEnum (l6.push {cls:=.type "tuple",data:=.seq #[.int k tk,x]}) e bP (k+1) old:=dq _ eh;have Br:(l6.push {cls:=.type "tuple",data:=.seq #[.int k tk,x]}).get? ar.objs.size=some {cls:=.type "tuple",data:=.seq #[.int k tk,x]}:=by rw[<-uM];exact eU _ z
 have qA:∀b o,b≠e->b≠bP->ar.get? b=some o->(l6.push {cls:=.type "tuple",data:=.seq #[.int k tk,x]}).get? b=some o:=λ b o ca cp q=>dq _ (aO.extBut b o ca (aq.extBut b o ca (al.extBut b o cp q)))
 have So:(l6.push {cls:=.type "tuple",data:=.seq #[.int k tk,x]}).IsListIter bP l (i+1):=by obtain⟨o,aT,r⟩:=(fa.extBut aq.extBut ne.symm).extBut aO.extBut ne.symm;exact⟨o,dq _ aT,r⟩
 rw[uM];generalize l6.push {cls:=.type "tuple",data:=.seq #[.int k tk,x]}=n_ at fl Br qA So;refine aL ?_;unfold Builtin.SmallTypes.ownedTupleIsFree;refine aL (tK fl z (x:=.none) z (bq ?_));simp only[iq];refine aL (lA (aL (tK fl z (x:=old) z ?_)));refine aL (mw fl ⇑2 λ GD (gH:IsEnum GD e bP (k+1) x)(ck:Heap.SameBut e n_ GD)=>?_);refine aL ?_;unfold Builtin.SmallTypes.ownedTupleHandOut;refine aL (mw gH ⇑2 λ GF (Bs:IsEnumOut GF e bP (k+1) x ar.objs.size)(cm:Heap.SameBut e GD GF)=>?_);refine mw Bs ⇑2 λ Bt (acG:IsEnumOut Bt e bP (k+1) x ar.objs.size)(ei:Heap.SameBut e GF Bt)=>?_;have up:∀b o,b≠e->n_.get? b=some o->Bt.get? b=some o:=λ b o n q=>ei.extBut b o n (cm.extBut b o n (ck.extBut b o n q));refine aL (wV (bq ⟨_,z,go Bt acG ?_ (up _ _ (p7 lt) Br) λ b o ca cp q=>up b o ca (qA b o ca cp q)⟩));obtain⟨o,aT,r⟩:=So;exact⟨o,up bP o ne.symm aT,r⟩
def acH
  (a3:IsEnum s.heap e bP k old) (aj:s.heap.IsListIter bP l i) (ah:s.heap.IsList l xs) (aa:xs[i]?=some x) (ne:e≠bP)
  (go:∀G,IsEnumOut G e bP (k+1) x ⇑s->G.IsListIter bP l (i+1)->G.get? ⇑s=some {cls:=.type "tuple",data:=.seq #[.int k s.toks,x]}->
   (∀b o,b≠e->b≠bP->s.heap.get? b=some o->G.get? b=some o)->Q (some (.ref ⇑s)) {s with heap:=G,toks:=s.toks+1}):
  ⇑5 (pyNext (.ref e)) Q E s:=by
 have ty:s.TypeIs (.ref e) "enumerate":=⟨_,a3,z⟩;unfold pyNext;refine aL (tG (tm (name:=Str.ofString "__next__") ty zE ?_));exact nH zE ty Og (acF a3 aj ah aa ne λ G a b c d=>bq (go G a b c d)) (N_ _)
def acI (b3:A.handled=none)
  (a3:IsEnum s.heap e bP k old) (aj:s.heap.IsListIter bP l i) (ah:s.heap.IsList l xs) (aa:xs[i]?=none)
  (go:∀G,Heap.ExtBut bP s.heap G->Q none {s with heap:=G}):⇑5 (pyNext (.ref e)) Q E s:=by
 have ty:s.TypeIs (.ref e) "enumerate":=⟨_,a3,z⟩;unfold pyNext;refine aL (tG (tm (name:=Str.ofString "__next__") ty zE ?_));refine nH zE ty Og ?_ (N_ _);show wpAny _ _ (field (.ref e) 2 >>= _) _ _ _;refine aL (tK a3 z (x:=.ref bP) z (aL (wpAny_nextOf_list_end b3 aj ah aa λ G x q ⟨o,aT,ak⟩=>?_)));exact aL (zN (T:="StopIteration") (b:=true) ⟨o,aT,ak⟩ Ec (bq (go _ q)))
end
end fV
end
section
namespace ef
open PySem PySem.Spec PyProof.Rows
section
variable{X:bE}{e:Expr}{cc:TE}{bx:eX}
def x8 (K:Frag)(a:Addr):qa:=⟨λ i H=>∃xs x,aG K H a xs/\xs[i]?=some x,λ i H v J=>∃T x,v=.ref T/\H T=none/\J=upd H T (.tup [.int ((i+1:Nat):Int),x])/\∀xs,aG K H a xs->xs[i]?=some x,λ i H=>∃xs:List V,aG K H a xs/\xs.length<=i⟩
inductive acJj(K:Frag)(R:qa->aP->Prop)(vs:List V)(H1:aP):Prop|mk a xs:vs=[.ref a]->aG K H1 a xs->R (x8 K a) H1->acJj K R vs H1
def acJ (K:Frag)(bx:eX):TI:=λ L H R=>bx L H (acJj K R)
def acK {P:Program}{w:World}{K:Frag}{xG:List Expr}{aQ:Nat}{rT:Pos}(a e bP:Addr):
  Turn P w K (.Tuple xG aQ rT) (x8 K a) [e,bP] e (λ i h=>(∃old,IsEnum h e bP ((i+1:Nat):Int) old)/\h.IsListIter bP a i/\e≠bP) where
 mem:=by simp
 obj:=λ i h st b Y=>by
  obtain⟨⟨old,a3⟩,⟨o,aT,ak,hd⟩,_⟩:=st;have bW:b=e\/b=bP:=by simpa using Y
  rcases bW with rfl|rfl;·exact⟨_,a3,λ v q=>nomatch q⟩
  ·exact⟨o,aT,λ v q=>by rw[hd] at q;cases q⟩
 keep:=λ i h h' st k=>let ⟨⟨old,a3⟩,aj,ek⟩:=st;⟨⟨old,k e ⇑2 _ a3⟩,aj.at λ o q=>k bP ⇑2 o q,ek⟩
 item:=by
  intro X dH hw fA ak i ac s L H E I aS st bL;subst dH hw fA;obtain⟨⟨old,a3⟩,nX,ek⟩:=st;obtain⟨xs,x,aK,aa⟩:=bL;obtain⟨aR,cv,p,hz⟩:=I.list aK;obtain⟨u,a1,gS⟩:=cv.get aa;have uN:=c2 a3;have uO:bP<⇑s:=by obtain⟨_,q,_⟩:=nX;exact c2 q
  refine fV.acH a3 nX p.isList (x:=u) ↥a1 ek λ h' aT acL aM ax=>?_;refine⟨_,z,wpAny_letOwnedTupleGo_enum (s:={s with heap:=h',toks:=s.toks+1}) aT λ xI sk d8=>?_⟩;have Fx:=(d8.2 _ (p7 uN)).trans aM;have new:e8 X.prog X.w (upd H ⇑s (.tup [.int ((i+1:Nat):Int),x])) xI ⇑s (.tup [.int ((i+1:Nat):Int),x]):=⟨by show 2<=sizeLine;decide,[.int ((i+1:Nat):Int) s.toks,u],.cons ⟨_,z⟩ (.cons gS .nil),⟨_,Fx,z,_,z⟩⟩
  have a4:Inv X ac L (upd H ⇑s (.tup [.int ((i+1:Nat):Int),x])) {s with heap:=xI,toks:=s.toks+1}:=I.Qa (ch:=[e,bP]) (λ b ob Y q=>(d8.2 b (λ B=>Y (by simp[B]))).trans (ax b ob (λ B=>Y (by simp[B])) (λ B=>Y (by simp[B])) q)) aS (bG _) new
  refine⟨.ref ⇑s,_,a4,z,⟨_,x,z,I.bi.fresh (bG _),z,λ _ aC=>by rw[I.z' aC aK];exact aa⟩,⟨⟨u,?_⟩,acL.at λ o q=>(d8.2 bP (i7 ek)).trans q,ek⟩,λ b Y=>?_⟩
  ·have ap:((i+1+1:Nat):Int)=((i+1:Nat):Int)+1:=by omega
   rw[ap];exact sk
  ·have qp:b<⇑s:=by
    have bW:b=e\/b=bP:=by simpa using Y
    rcases bW with rfl|rfl;·exact uN
    ·exact uO
   rw[dv (er qp)];exact(aS b Y).1
 done:=by intro X dH hw fA ak i ac s L H E I aS st bL;subst dH hw fA;obtain⟨⟨old,a3⟩,nX,ek⟩:=st;obtain⟨xs,aK,aa⟩:=bL;obtain⟨aR,cv,p,hz⟩:=I.list aK;obtain⟨gG,e',_,eh,fl,gH⟩:=aS bP ⇑2;have ah:=cv.length;exact fV.acI (I.ok.hd ak) a3 nX p.isList (by simp;omega) λ h' di=>⟨z,I.turned (t':=s.toks) (λ b o Y q=>di b o Y q) gG e' eh fl gH⟩
 self:=λ _ i s _ E st h=>let ⟨⟨_,a3⟩,_⟩:=st;wpAny_pyIter_enum a3 h
def Sp (bL:gr X "enumerate")(hm:X.am "enumerate"=none)(az:gf X [e] bx)(au:starEach [e] X.env=[(false,eval e X.env)]:=by rfl):
  nQ X (.Tuple xG aQ rT) (.Call (.Name "enumerate" p) [e] [⟨some "start",.Constant (.int 1) j m',x9⟩] pos) (acJ X.K bx):=by
 intro ac s L H _ I h;refine oO (rH I bL hm boot_enumerate (fV.acu (bC (az pos ac s L H _ I h) λ _ al ⟨_,H1,a4,b0,q1⟩=>?_) (by rw[au];rfl) z z));obtain⟨a,_,ex,aK,q⟩:=q1;subst ex;cases b0 with
 |cons r rJ=>
  cases rJ;cases r;refine kws_cons (bC (bc (i:=1) al L H1 (λ v J=>v=.int 1/\J=H1) a4 ⟨z,z⟩) λ _ aq ⟨v,aE,b8,de,mN,GG⟩=>kws_nil ?_);subst mN GG;obtain⟨tk,rfl⟩:=de;obtain⟨_,_,fN,_⟩:=b8.list aK;refine fV.acE (l:=a) (tk:=tk) fN.isList λ _ a3 nX ax=>wpAny_pyIter_enum a3 ?_;have dM:=b8.kept (t':=aq.toks) ax;refine⟨⇑aq+1,[⇑aq+1,⇑aq],_,_,aE,z,dM,acK a (⇑aq+1) ⇑aq,⟨⟨.none,a3⟩,nX,Oh _⟩,λ b Y=>?_,q⟩;have bW:b=⇑aq+1\/b=⇑aq:=by simpa using Y
  have lQ:⇑aq<=b:=by
   rcases bW with B|B;·rw[B];exact wH _ _
   ·rw[B];exact bG _
  exact b8.tX lQ (b8.bi.fresh lQ)
end
end ef
end
section
namespace fV
open PySem PySem.Spec PyProof.Rows
section
variable{prog:Program}{w:World}{A:Around}{R:Result->Shared->Prop}{I:Addr}{b2 n':List Addr}{n:Nat}{P:Nat->Value->Prop}{St:Nat->Heap->Prop}
def Bu:(toString "min"++toString ".loop":String)="min.loop":=by decide
def acM (h:Q (.bool (decide (a<b))) s):⇑5 (richCompare .Lt (.int a t) (.int b u)) Q E s:=richCompare_gives (op:=.Lt) (typeIs_int s a t) (typeIs_int s b u) F.slot_int_lt F.entry_int_lt (F.args_int_lt_2 _ _) (gives_int_lt a b t u) (nofun) h
def acN (W:Walks prog w A.in1 I b2 n' n P St)(f:Nat->Int)(aS:∀i v,P i v->∃t,v=.int (f i) t)(ds)(pr:ds∉b2)(acO):∀k j t m sm c,n - j=k->j<=n->St j t.heap->t.heap.get? ds=some {cls:=.type "list",dict:=none,data:=.seq #[.int m sm,.int m sm] c,slots:= #[]}->(∀gq cG G cU,(gq=m\/∃i,j<=i/\i<n/\gq=f i)->gq<=m->(∀i,j<=i->i<n->gq<=f i)->(∀b o,b∉n'->b≠ds->t.heap.get? b=some o->G.get? b=some o)->R (.ok (.ret (.int gq cG))) {t with heap:=G,toks:=cU})->codeAny (model prog w) A (.builtin "min.loop" ⟨[.ref I,.none,.ref ds],[("default",acO)]⟩) R t:=by
 have j0:ds∉n':=λ q=>pr (W.sub _ q);intro k;induction k with
 |zero=>
  intro j t m sm c ax a0 st hY go;have el:j=n:=by omega
  refine ly D' ?_;rw[nB rq _];refine aL (tE hY z ?_);refine aL (p6 (W.done t _ _ (el▸st) λ G cU et=>?_));refine aL (wO (et ds _ j0 hY) z (aL (wV (bq ?_))));exact go m sm _ cU (.inl z) (Int.le_refl _) (λ i _ G=>by omega) λ b o ca cp q=>(ms _ _ cp.symm).trans (et b o ca q)
 |succ k ih=>
  intro j t m sm c ax a0 st hY go;have lt:j<n:=by omega
  refine ly D' ?_;rw[nB rq _];refine aL (tE hY z ?_);refine aL (p6 (W.item j t _ _ lt st λ v G cU ba mI et=>?_));obtain⟨iu,rfl⟩:=aS j v ba;have uP:=et ds _ j0 hY;show wpAny _ A.in1 (tryCatch (holding [_,_] (richCompare .Lt (.int (f j) iu) (.int m sm) >>= _)) _ >>= _) _ _ _;refine aL (p6 (hs (aL (acM (aL (hs (oR (aL (wV (bq ?_))))))))));by_cases Y:f j<m
  ·rw[dO Y];simp only[iq];refine aL (wO uP z (aL (wV ?_)));rw[Bu];refine bq ⟨lz rq _,ih (j+1) _ (f j) iu _ ⇑1 lt (W.frame _ _ _ mI λ b q o e=>?_) (rk _ uP z) λ gq cG an f5 a' a5 bn cx=>?_⟩
   ·exact(ms _ _ (λ B:ds=b=>pr (B▸q))).trans e
   ·refine go gq cG an f5 ?_ ⇑1 (λ i fa dm=>?_) λ b o ca cp q=>cx b o ca cp ((ms _ _ cp.symm).trans (et b o ca q))
    ·rcases a' with B|⟨i,fa,dm,B⟩
     ·exact .inr ⟨j,bG _,lt,B⟩
     ·exact .inr ⟨i,⇑1,dm,B⟩
    ·by_cases B:i=j
     ·rw[B];exact a5
     ·exact bn i ⇑1 dm
  ·rw[eA Y];simp only[il,ip];refine aL (wV ?_);rw[Bu];refine bq ⟨lz rq _,ih (j+1) _ m sm c ⇑1 lt mI uP λ gq cG an f5 a' a5 bn cx=>?_⟩;refine go gq cG an f5 ?_ a5 (λ i fa dm=>?_) λ b o ca cp q=>cx b o ca cp (et b o ca q)
   ·rcases a' with B|⟨i,fa,dm,B⟩
    ·exact .inl B
    ·exact .inr ⟨i,⇑1,dm,B⟩
   ·by_cases B:i=j
    ·rw[B];omega
    ·exact bn i ⇑1 dm
def acP (W:Walks prog w A.in1 I b2 n' n P St)(f:Nat->Int)(aS:∀i v,P i v->∃t,v=.int (f i) t)(ds)(pr:ds∉b2)(d)(cR)(st:St 0 t.heap)
  (hY:t.heap.get? ds=some {cls:=.type "list",dict:=none,data:=.seq #[] c,slots:= #[]})
  (go:∀gq cG G cU,(n=0/\gq=d)\/((∃i,i<n/\gq=f i)/\∀i,i<n->gq<=f i)->(∀b o,b∉n'->b≠ds->t.heap.get? b=some o->G.get? b=some o)->R (.ok (.ret (.int gq cG))) {t with heap:=G,toks:=cU}):
  codeAny (model prog w) A (.builtin "min.loop" ⟨[.ref I,.none,.ref ds],[("default",.int d cR)]⟩) R t:=by
 have j0:ds∉n':=λ q=>pr (W.sub _ q);refine ly D' ?_;rw[nB rq _];refine aL (tE hY z ?_);by_cases aX:n=0
 ·refine aL (p6 (W.done t _ _ (aX▸st) λ G cU et=>?_));exact aL (lA (bq (go d cR G cU (.inl ⟨aX,z⟩) λ b o ca _ q=>et b o ca q)))
 ·refine aL (p6 (W.item 0 t _ _ ⇑1 st λ v G cU ba mI et=>?_));obtain⟨iu,rfl⟩:=aS 0 v ba;have uP:=et ds _ j0 hY;show wpAny _ A.in1 (updateSeq ds (λ _=> #[_,_]) >>= _) _ _ _;refine aL (wO uP z ?_);rw[Bu];refine bq ⟨lz rq _,acN W f aS ds pr _ _ 1 _ (f 0) iu _ z ⇑1 (W.frame _ _ _ mI λ b q o e=>?_) (rk _ uP z) λ gq cG an f5 a' a5 bn cx=>?_⟩
  ·exact(ms _ _ (λ B:ds=b=>pr (B▸q))).trans e
  ·refine go gq cG an f5 (.inr ⟨?_,λ i dm=>?_⟩) λ b o ca cp q=>cx b o ca cp ((ms _ _ cp.symm).trans (et b o ca q))
   ·rcases a' with B|⟨i,fa,dm,B⟩
    ·exact⟨0,⇑1,B⟩
    ·exact⟨i,dm,B⟩
   ·by_cases B:i=0
    ·rw[B];exact a5
    ·exact bn i ⇑1 dm
end
section
variable{prog:Program}{w:World}{A:Around}{E:Value->Shared->Prop}{s:Shared}{l:Addr}
def acQ (a b):argsOk "min" ⟨[a],[("default",b)]⟩:=by unfold argsOk;kernel_rfl
def acR {id:String}(D:builtinKind id=none)(G:plainId id=true)(an:entryFor table id=some acS)(aU:argsOk id ⟨us,ks⟩)
  (run:wpAny (model prog w) A.in1 (acS ⟨us,ks⟩) (λ cY t=>match cY with
   |.done f=>(match (Except.ok f:Result) with|.ok (.ret v)=>Q v t|.ok _=>False|.error e=>E e t)
   |.again dS=>dS.quiet=true/\codeAny (model prog w) A dS (λ r cG=>match r with|.ok (.ret v)=>Q v cG|.ok _=>False|.error e=>E e cG) t) E s):
  ⇑5 (call (.builtin id) us ks) Q E s:=by
 refine tL (wE G an ?_);simp only[checkBuiltinCall,D];cases e:Manifest.signature? id with
 |none=>exact bq run
 |some GH=>
  have q:Bind.checkArgs id GH ⟨us,ks⟩=pure ():=by simpa only[argsOk,e] using aU
  simp only[q];exact bq run
theorem ints_get:∀{aR:List Value}{ns:List Int},IntsAre aR ns->∀(i:Nat)(v:Value),aR[i]?=some v->∃t,v=.int (ns.getD i 0) t
 |_,_,.nil,i,v,h=>by cases h
 |_,_,.cons n t q,0,v,h=>by cases h;exact⟨t,z⟩
 |_,_,.cons n t q,i+1,v,h=>by have:=ints_get q i v ↥h;simpa using this
def minD (b3:A.handled=none)(ah:s.heap.IsList l aR.toArray)(aj:IntsAre aR ns)
  (go:∀G cU m cG,(∀b o,s.heap.get? b=some o->G.get? b=some o)->(ns=[]/\m=d)\/(m∈ns/\∀y∈ns,m<=y)->Q (.int m cG) {s with heap:=G,toks:=cU}):
  ⇑5 (call (.builtin "min") [.ref l] [("default",.int d cR)]) Q E s:=by
 refine acR F.kind_min F.plain_min F.entry_min (acQ _ _) ?_;refine aL (tJ (show Builtin.Builtins.bindParams "min" ["key","default"] 0 ⟨[],[("default",.int d cR)]⟩=pure [none,some (.int d cR)] from rfl) ?_);refine aL (bq ?_);have c6:l<⇑s:=by obtain⟨_,e,_⟩:=ah;exact c2 e
 refine aL (p1 ah ?_);refine aL (tx ?_);have l0:=g5 s.heap {cls:=.type "list_iterator",data:=.fields #[.ref l,.int 0 0]};have ne:=er c6;have W:=zY (prog:=prog) (w:=w) (A:=A.in1) b3 ⇑s l ne aR.toArray;rw[Bu];have bR:=aj.length;refine bq ⟨lz rq _,acP W (λ i=>ns.getD i 0) (λ i v ba=>ints_get aj i v ↥ba) _ ?_ d cR ⟨⟨_,dq _ (eU _ z),z,z⟩,(ah.push _).push _⟩ (eU _ z) λ m cG G cU a' a5=>?_⟩
 ·intro q;have q:=q;rw[l0] at q;rcases bN.mp q with q|q
  ·exact Oh _ q
  ·exact absurd c6 (by rw[<-dL.mp q];exact wU.mpr (mz _))
 ·refine go G cU m cG (λ b o q=>?_) ?_
  ·have pc:=c2 q;refine a5 b o (λ B=>?_) (λ B=>?_) (dq _ (dq _ q))
   ·exact absurd pc (by rw[dL.mp B];exact kc _)
   ·have B:=B;rw[l0] at B;exact absurd pc (by rw[B];exact wU.mpr (mz _))
  ·have au:aR.toArray.size=ns.length:=by simp[bR]
   rw[au] at a';rcases a' with⟨iC,e_⟩|⟨⟨i,fa,dm⟩,bn⟩
   ·exact .inl ⟨NB.mp iC,e_⟩
   ·refine .inr ⟨?_,λ y aC=>?_⟩
    ·rw[dm,mr,ez fa];exact tw fa
    ·obtain⟨j,a0,rfl⟩:=wC aC;have:=bn j a0;rw[mr,ez a0] at this;exact this
end
end fV
namespace ef
open PySem PySem.Spec PyProof.Rows
section
variable{X:bE}{e:Expr}{cc:TE}{bx:eX}
inductive acTj(K:Frag)(Q:d7)(vs:List V)(H1:aP):Prop|mk a ns:vs=[.ref a]->aG K H1 a (ns.map V.int)->(∀m,(ns=[]/\m=0)\/(m∈ns/\∀y∈ns,m<=y)->Q (.int m) H1)->acTj K Q vs H1
def acT (K:Frag)(bx:eX):TE:=λ L H Q=>bx L H (acTj K Q)
def acU (ak:X.calm=true)(D:X.am "min"=none)(a3:gf X [e] bx)(a':gr X "min":=by rfl)(au:starEach [e] X.env=[(false,eval e X.env)]:=by rfl):
  a9 X (.Call (.Name "min" p) [e] [⟨some "default",.Constant (.int 0) j m',x9⟩] q) (acT X.K bx):=by
 intro ac s L H _ I h;refine oO (rH I a' D boot_min (PyProof.Rows.callWith_kw (bC (a3 q ac s L H _ I h) λ _ al ⟨_,H1,a4,b0,q1⟩=>?_) (by rw[au];rfl) (by rw[au];rfl)));obtain⟨_,_,ex,aK,go⟩:=q1;subst ex;rw[Vals.xp b0];refine kws_cons (bC (bc (i:=0) al L H1 (λ v J=>v=.int 0/\J=H1) a4 ⟨z,z⟩) λ _ _ ⟨v,aE,b8,de,mN,GG⟩=>kws_nil ?_);subst mN GG;obtain⟨_,rfl⟩:=de;obtain⟨_,cv,ah,_⟩:=b8.list aK;exact fV.minD (b8.ok.hd ak) ah.isList cv.ints λ _ _ m _ ax hm=>⟨.int m,aE,b8.kept ax,⟨_,z⟩,go m hm⟩
end
end ef
end
section
namespace ef
open PySem PySem.Spec PyProof.Rows
section
variable{X:bE}{e:Expr}{cc:TE}{bx:eX}
inductive acVj(Q:d7)(x:V)(H1:aP):Prop|mk a aw:x=.ref a->H1 a=some (.cT aw)->(∀l,H1 l=none->Q (.ref l) (upd H1 l (.lst (aw.map λ ct=>c0 ct.1))))->acVj Q x H1
def acV (cc:TE):TE:=λ L H Q=>cc L H (acVj Q)
theorem Sq:∀{aw:List (Key×V)}{vs:List (Key×Value)}{aY:List Value},e6 aw vs->aY.length=vs.length->(∀(j:Nat)(v:Value),aY[j]?=some v->∃k x,vs[j]?=some (k,x)/\gR k v=true)->Vals (aw.map λ ct=>c0 ct.1) aY
 |[],_,[],.nil,_,_=>.nil
 |_::_,_,[],.cons _ _,h,_=>by cases h
 |[],_,_::_,.nil,h,_=>by cases h
 |p::aw,_,v::aY,.cons (b:=q) r t,h,g=>by
  obtain⟨k,x,ap,ao⟩:=g 0 v z;have ap:q=(k,x):=by simpa using ap
  subst ap;refine .cons ?_ (Sq t ↥h λ j u a1=>g (j+1) u a1);show RelV (c0 p.1) v;rw[r.1];exact Zq ao
def acW (ak:X.calm=true):jF X (.type "list") (λ xs H Q=>∃a aw,xs=[.ref a]/\H a=some (.cT aw)/\∀l,H l=none->Q (.ref l) (upd H l (.lst (aw.map λ ct=>c0 ct.1)))):=by intro _ s _ H xs _ Q I r h;obtain⟨a,aw,rfl,hd,q⟩:=h;rw[Vals.xp r];obtain⟨hz,lo,vs,ct,o,ae,ep,aT,m4,acX,ks,ps,nd⟩:=AB I.bi hd;have ah:=tF ct;have P4:s.heap.DictAt (dT X.prog X.w) a vs ep:=⟨o,ae,aT,m4,acX,ks,ps,nd⟩;refine PySem.W.kdl_call (PySem.W.kdl_dict (knd:=dT X.prog X.w) («kvs»:=vs) (ep:=ep) lo) (I.ok.hd ak) P4 (by rw[<-ah];exact hz) λ G _ aY dS ax cr j1=>?_;have ba:=Sq ct (by rw[nC];exact j1.1) λ j v a0=>j1.2 j v (by rw[<-tn];exact a0);refine⟨.ref ⇑s,_,I.laid ax (bG _) (show e8 X.prog X.w _ G _ (.lst _) from⟨by rw[be];exact hz,aY.toList,dS,ba,↥cr⟩),z,q _ (I.bi.fresh (bG _))⟩
def acY {bx:TE}(h:a9 X e bx):a9 X e (λ L H Q=>∃Q':d7,bx L H Q'/\∀v H1,Q' v H1->Q v H1):=λ ac s L H Q I ⟨Q',aK,hw⟩=>bC (h s L H Q' I aK) λ _ _ ⟨v,H1,a4,r,q⟩=>⟨v,H1,a4,r,hw v H1 q⟩
def acZ (ak:X.calm=true)(D:X.am "list"=none)(a3:a9 X e cc)(a':gr X "list":=by rfl)(au:starEach [e] X.env=[(false,eval e X.env)]:=by rfl):a9 X (.Call (.Name "list" p) [e] [] q) (acV cc):=by intro ac s L H Q I h;exact o7 (acW ak) a' D boot_list (U (acY a3) ai au) ⇑0 ⇑0 au z s L H Q I ⟨_,h,λ _ _ ⟨a,aw,e,hd,q⟩=>⟨a,aw,by rw[e],hd,q⟩⟩
end
end ef
end
section
namespace fV
open PySem PySem.Spec PyProof.Rows PySem.W
section
variable{prog:Program}{w:World}{A:Around}{E:Value->Shared->Prop}{s:Shared}{K:Frag}{x C:Addr}{Bv:Obj}{e9:Option Obj}
def ac0 (X:K.In s.heap)(I:PySem.W.InstAt s.heap x Bv C e9)(aT:PySem.W.mroIn K C (.type "object")=some true)(q:Q .notImplemented s):
  ⇑5 (call (.builtin "object.__eq__") [.ref x,.none]) Q E s:=by
 refine tL (wE F.cmp_object.eq.plain F.cmpEntry_eq ?_);simp only[checkBuiltinCall,F.cmpKind_eq,F.cmpSplit_eq];refine aL ?_;unfold isInstance;refine aL (I.type.here ?_);refine(looks_mroIn X aT).here ?_;rw[ay ⇑0];have cY:wpAny (model prog w) A.in1 (Builtin.«object.__eq__» ⟨[.ref x,.none],[]⟩) (λ cY t=>cY=.done (.ret .notImplemented)/\t=s) (λ e t=>E e t) s:=by
  unfold Builtin.«object.__eq__»
  repeat (first|with_reducible refine tJ (show isSame (.ref x) .none=pure false from rfl) ?_|wp_step)
  exact⟨z,z⟩
 have go:=hu cY (Q':=λ cY t=>match cY with
   |.done f=>(match (Except.ok f:Result) with|.ok (.ret v)=>Q v t|.ok _=>False|.error e=>E e t)
   |.again c=>c.quiet=true/\codeAny (model prog w) A c (λ r t=>match r with|.ok (.ret v)=>Q v t|.ok _=>False|.error e=>E e t) t)
  (λ f t h=>by obtain⟨rfl,rfl⟩:=h;exact q) λ _ _ h=>h
 have az:=F.cmpArgs_eq (.ref x) .none;cases e:Manifest.signature? "object.__eq__" with
 |none=>exact bq go
 |some GH=>
  have G:Bind.checkArgs "object.__eq__" GH ⟨[.ref x,.none],[]⟩=pure ():=by simpa only[argsOk,e] using az
  dsimp only;rw[G];exact bq go
def ac1 (X:K.In s.heap)(I:PySem.W.InstAt s.heap x Bv C e9)(a3:findIn K (.ref C) "__eq__"=some (some (.builtin "object.__eq__")))(aT:PySem.W.mroIn K C (.type "object")=some true)(q:Q none s):
  ⇑5 (tryCompare (.ref x) "__eq__" .none) Q E s:=by
 simp only[tryCompare,callSpecialIfBound?,bindSpecialIfBound?];refine aL (hs (aL (aL (aL (I.type.here ((looks_findIn X a3).here ?_))))));simp only[F.cmp_object.eq.bind];refine aL (wK (wpAny_ite ?_));have cY:⇑5 (call (.builtin "object.__eq__") ([.ref x]++[.none]) >>= λ v=>pure (some v)) (λ a t=>a=some .notImplemented/\t=s) E s:=aL (ac0 X I aT (bq ⟨z,z⟩));have x_:=hu cY (Q':=λ a t=>⇑5 (match a with
   |some Value.notImplemented=>pure none
   |none=>pure none
   |some v=>pure (some v)) Q E t) (λ a t h=>by obtain⟨rfl,rfl⟩:=h;exact bq q) λ _ _ h=>h
 split;·exact aL (bq (bq x_))
 ·exact p6 (aL (bq (bq x_)))
def ac2 (q:Q none s):⇑5 (tryCompare .none "__eq__" (.ref x)) Q E s:=by
 simp only[tryCompare,callSpecialIfBound?,bindSpecialIfBound?];have ap:typeOf .none=pure (.type "NoneType"):=rfl;have ao:typeLookup (.type "NoneType") "__eq__"=pure (some (.builtin "NoneType.__eq__")):=D2.lookup;refine aL (hs (aL (aL ?_)));unfold specialOf;rw[ap];refine aL (bq ?_);rw[ao];refine bq ?_;simp only[D2.bind];refine aL (wK (wpAny_ite ?_));have cY:⇑5 (call (.builtin "NoneType.__eq__") ([.none]++[.ref x]) >>= λ v=>pure (some v)) (λ a t=>a=some .notImplemented/\t=s) E s:=aL (call_gives D2 z F.entry_NoneType_eq (F.args_NoneType_eq_2 _ _) (PySem.SeqAt.NoneType___eq___none_ref_0 x) (bq ⟨z,z⟩))
 have x_:=hu cY (Q':=λ a t=>⇑5 (match a with
   |some Value.notImplemented=>pure none
   |none=>pure none
   |some v=>pure (some v)) Q E t) (λ a t h=>by obtain⟨rfl,rfl⟩:=h;exact bq q) λ _ _ h=>h
 split;·exact aL (bq (bq x_))
 ·exact p6 (aL (bq (bq x_)))
def obj_none (X:K.In s.heap)(I:PySem.W.InstAt s.heap x Bv C e9)(a3:findIn K (.ref C) "__eq__"=some (some (.builtin "object.__eq__")))(aT:PySem.W.mroIn K C (.type "object")=some true)(a1:A.units<cLine)(q:Q (.bool false) s):
  ⇑5 (richCompare .Eq (.ref x) .none) Q E s:=by
 have au:PySem.W.subIn K (.type "NoneType") (.ref C)=some false:=by
  have:fastBuiltinMro "NoneType"=some [.type "NoneType",.type "object"]:=by decide+kernel
  show(fastBuiltinMro "NoneType").map (·.contains (Value.ref C))=some false;rw[this];rfl
 have ap:typeOf .none=pure (.type "NoneType"):=rfl;unfold richCompare;refine hs (aL (wpAny_cRoomFor a1 ?_));have cD:oneThing? .Eq (.ref x) .none=none:=rfl;simp only[cmpInfo_Eq,ap,cD];refine aL (I.type.here (aL (bq ?_)));have bz:(Value.ref C !=Value.type "NoneType")=true:=rfl;simp only[bz,iq];refine aL ((looks_subIn X au).here ?_);simp only[il,ip,Bool.not_false,iq];refine aL (ac1 X I a3 aT ?_);refine aL (ac2 ?_);refine aL (lA ?_);exact aL (tJ (show isSame (.ref x) .none=pure false from rfl) (bq q))
open PySem.SeqAt in
def ac3 (X:K.In s.heap)(I:PySem.W.InstAt s.heap x Bv C e9)(a3:findIn K (.ref C) "__eq__"=some (some (.builtin "object.__eq__")))(aT:PySem.W.mroIn K C (.type "object")=some true)(a1:A.units<cLine):EqAt A s (.ref x) .none false:=λ _ _ _ _ h=>by unfold eqBool;refine hs ?_;refine wP (λ q=>absurd (nJ q) nofun) (λ _=>?_);exact aL (obj_none X I a3 aT a1 (oR h))
open PySem.SeqAt in
def ac4:EqAt A s .none .none true:=λ _ _ _ _ h=>by unfold eqBool;refine hs ?_;refine wP (λ _=>aL (lA (bq h))) (λ q=>absurd (DX _) q)
end
end fV
end
section
namespace ef
open PySem PySem.Spec PyProof.Rows
section
variable{X:bE}{e:Expr}{cc:TE}{bx:eX}
def PlainEq (K:Frag)(C:Addr):Prop:=fo K C/\PySem.W.findIn K (.ref C) "__eq__"=some (some (.builtin "object.__eq__"))/\PySem.W.mroIn K C (.type "object")=some true
def x' (K:Frag)(H:aP)(v:V):Prop:=v=.b6\/∃a C dx bT,v=.ref a/\H a=some (.ins C dx bT)/\PlainEq K C
def qB:Value->Bool
 |.none=>true
 |_=>false
def in1_units (A:Around):A.in1.units<=A.units+1:=by first|exact bG _|exact mz _|simp[Around.in1]
def GI (r:RelV v u):qB u=decide (v=.b6):=by have:=r.Ep;rw[<-this];cases u<;>rfl
def ac5 (I:Inv X ac L H s)(a1:A.units<cLine)(h:x' X.K H v)(r:RelV v u):SeqAt.EqAt A s u .none (qB u):=by
 rcases h with rfl|⟨a,C,dx,bT,rfl,az,ar⟩
 ·have e:=r;subst e;exact fV.ac4
 ·have e:=r;subst e;obtain⟨_,dU,_⟩:=Ah I.bi az;obtain⟨_,eg,_⟩:=dU.look;exact fV.ac3 I.iN eg ar.2.1 ar.2.2 a1
theorem GJ (I:Inv X ac L H s)(a1:A.units<cLine):∀{xs:List V}{us:List Value},Vals xs us->(∀v∈xs,x' X.K H v)->∀u∈us,SeqAt.EqAt A s u .none (qB u)
 |_,_,.nil,_,u,h=>by cases h
 |_,_,.cons r t,g,u,h=>by
  rcases bN.mp h with rfl|h;·exact ac5 I a1 (g _ cn) r
  ·exact GJ I a1 t (λ v ba=>g v (cu _ ba)) u h
theorem Sr:∀{xs:List V}{us:List Value},Vals xs us->us.any qB=decide (V.b6∈xs)
 |_,_,.nil=>rfl
 |_,_,.cons (a:=x) (l₁:=xs) r t=>by rw[jC,GI r,Sr t,eW];simp only[jB,fG,bN];exact⟨λ h=>h.imp (λ B=>B.symm) id,λ h=>h.imp (λ B=>B.symm) id⟩
def Ss (a1:X.A.units+64<cLine):gt X (compareOp .In) (λ x y H Q=>∃p xs,x=.b6/\y=.ref p/\H p=some (.lst xs)/\(∀v∈xs,x' X.K H v)/\Q (.bg (decide (V.b6∈xs))) H):=by intro _ _ _ H x y v _ Q I bt bo h;obtain⟨p,xs,rfl,rfl,ar,aB,q⟩:=h;have mN:=bt;subst mN;cases bo;obtain⟨aR,r,pl,_⟩:=I.list (aG.of ar);have GK:X.A.in1.units<cLine:=kR (in1_units _) ⇑1;refine SeqAt.in_listAt qB pl.isList (λ w hw=>GJ I GK r aB w ↥hw) ⟨.bg _,H,I,z,?_⟩;rw[show aR.toArray.any qB=aR.any qB by simp,Sr r];exact q
def Su (a1:X.A.units+64<cLine):lL X "list.index" (λ x ys H Q=>∃p xs j,x=.ref p/\ys=[.b6]/\H p=some (.lst xs)/\(∀v∈xs,x' X.K H v)/\xs[j]?=some .b6/\(∀m B,m<j->xs[m]?=some B->B≠.b6)/\Q (.int (j:Nat)) H):=by
 intro ac s L H x xs v us Q I bt ac6 h;obtain⟨a,ys,j,rfl,rfl,ar,aB,hz,dK,q⟩:=h;cases bt;cases ac6 with
 |cons bo nM=>
  rename_i ak6 ak7;cases nM;have mN:=bo;subst mN;have GK:X.A.in1.units<cLine:=kR (in1_units _) ⇑1;obtain⟨aR,cv,⟨⟨cls,cS,data,sl⟩,n,aT,ak,ak8,hd⟩,bR⟩:=I.list (aG.of ar);simp only at ak hd;subst ak hd;obtain⟨u,uG,gS⟩:=cv.get hz;obtain⟨ac7,ac8⟩:=c_.mp uG;have uQ:=cv.length;have a0:j<aR.toArray.size:=by simpa using ac7
  have jm:=zW;refine p8 DF ⟨_,aT,z⟩ PySem.F.entry_list_index (PySem.F.args_list_index_2 _ _)
   (SeqAt.list_indexAt a aR.toArray n cS sl .none qB j a0 ⇑1 ?_ ?_) ⟨aT,λ lD uG=>GJ I GK cv aB lD ↥uG,?_⟩
  ·have ap:aR.toArray[j]=u:=by simpa using ac8
   rw[ap,GI gS];rfl
  ·intro m hm ac9;have ada:m<ys.length:=by
    have:m<aR.length:=by simpa using hm
    omega
   have xW:=ez ada;obtain⟨qq,Fv,Fw⟩:=cv.get xW;obtain⟨_,adb⟩:=c_.mp Fv;have ap:aR.toArray[m]=qq:=by simpa using adb
   rw[ap,GI Fw];exact eA (dK m _ ac9 xW)
  ·exact⟨.int (j:Nat),H,I.tok _,⟨_,z⟩,q⟩
end
end ef
end
section
namespace fV
open PySem
def kA (xs:Array Nat):Prop:=xs.toList.Pairwise (· < ·)
def kA.lt (h:kA xs)(F1:i<j)(a0:j<xs.size):xs[i]'⇑1<xs[j]:=by have:=List.pairwise_iff_getElem.mp h i j (by simp;omega) ↥a0 F1;simpa using this
def adc (h:kA xs)(j):∀f lo aj,lo<=aj->aj<=xs.size->aj - lo<=f->(∀i (l7:i<xs.size),i<lo->xs[i]<j)->(∀i (l7:i<xs.size),aj<=i->j<=xs[i])->lo<=SetTable.below.go xs j f lo aj/\SetTable.below.go xs j f lo aj<=aj/\(∀i (l7:i<xs.size),i<SetTable.below.go xs j f lo aj->xs[i]<j)/\∀i (l7:i<xs.size),SetTable.below.go xs j f lo aj<=i->j<=xs[i]:=by
 intro f;induction f with
 |zero=>
  intro lo aj D G an aU bY;have e:lo=aj:=by omega
  subst e;exact⟨bG _,bG _,aU,bY⟩
 |succ f ih=>
  intro lo aj D G an aU bY;unfold SetTable.below.go;by_cases ah:lo<aj
  ·rw[aA ah];have hm:(lo+aj) / 2<xs.size:=by omega
   have e:xs.getD ((lo+aj) / 2) j=xs[(lo+aj) / 2]:=by simp[Array.getD,hm]
   dsimp only;rw[e];by_cases aK:xs[(lo+aj) / 2]<j
   ·rw[aA aK];obtain⟨a',a5,bn,cx⟩:=ih ((lo+aj) / 2+1) aj ⇑1 G ⇑1 (λ i l7 _=>by
     by_cases B:i<(lo+aj) / 2;·exact oU (h.lt B hm) aK
     ·have:i=(lo+aj) / 2:=by omega
      subst this;exact aK) bY
    exact⟨⇑1,a5,bn,cx⟩
   ·rw[ay aK];obtain⟨a',a5,bn,cx⟩:=ih lo ((lo+aj) / 2) ⇑1 ⇑1 ⇑1 aU (λ i l7 _=>by
     by_cases B:(lo+aj) / 2<i;·have:=h.lt B l7;omega
     ·have:i=(lo+aj) / 2:=by omega
      subst this;omega)
    exact⟨a',⇑1,bn,cx⟩
  ·rw[ay ah];have e:lo=aj:=by omega
   subst e;exact⟨bG _,bG _,aU,bY⟩
def GL (h:kA xs)(j):SetTable.below xs j<=xs.size/\(∀i (aj:i<xs.size),i<SetTable.below xs j->xs[i]<j)/\∀i (aj:i<xs.size),SetTable.below xs j<=i->j<=xs[i]:=by obtain⟨_,a5,bn,cx⟩:=adc h j xs.size 0 xs.size (cQ _) (bG _) ⇑1 (λ i aj c6=>absurd c6 (p5 _)) (λ i aj _=>absurd aj ⇑1);exact⟨a5,bn,cx⟩
def ade (h:kA xs)(aB:xs[SetTable.below xs j]?≠some j):kA (SetTable.insertAt xs (SetTable.below xs j) j):=by
 obtain⟨_,a5,bn⟩:=GL h j;unfold kA;rw[SetTable.toList_insertAt];have aX:xs.toList=xs.toList.take (SetTable.below xs j)++xs.toList.drop (SetTable.below xs j):=(oM _ _).symm;have dH:=h;unfold kA at dH;rw[aX] at dH;obtain⟨dR,fP,m'⟩:=tq.mp dH;have lo:∀a∈xs.toList.take (SetTable.below xs j),a<j:=λ a az=>by obtain⟨i,aj,rfl⟩:=wC az;rw[c5] at aj;rw[List.getElem_take];have:=a5 i (by simp at aj;omega) ⇑1;simpa using this
 have aj:∀b∈xs.toList.drop (SetTable.below xs j),j<b:=λ b Y=>by
  obtain⟨i,aj,rfl⟩:=wC Y;rw[lx] at aj;rw[List.getElem_drop];have c6:SetTable.below xs j+i<xs.size:=by simp at aj;omega
  have:=bn (SetTable.below xs j+i) c6 ⇑1;have e:xs.toList[SetTable.below xs j+i]'↥c6=xs[SetTable.below xs j+i]:=by simp
  rw[e];refine N4 this λ B=>?_;have Sv:SetTable.below xs j<xs.size:=by omega
  have G:=bn (SetTable.below xs j) Sv (bG _);by_cases q:i=0
  ·subst q;apply aB;rw[nz Sv];simp at B;rw[<-B]
  ·have:=h.lt (i:=SetTable.below xs j) (j:=SetTable.below xs j+i) ⇑1 c6;omega
 refine tq.mpr ⟨dR,im.mpr ⟨aj,fP⟩,λ a az b Y=>?_⟩;rcases bN.mp Y with rfl|Y
 ·exact lo a az
 ·exact m' a az b Y
structure Tab (dC:Bool)(t:SetTable)(n:Nat):Prop where
 fits:t.fits n=true
 rise:kA t.place
 GN:t.dummies= #[]
 led:t.led=dC
def Tab.size (h:Tab dC t n):t.place.size=n:=by have:=h.fits;simp only[SetTable.fits,dF,d_] at this;exact this.1
def adf (n):kA (Array.range n):=by unfold kA;rw[Array.toList_range];exact DI
def Bw {t:SetTable}(n)(ah:t.led=dC):Tab dC (t.standIn n) n:=⟨SetTable.standIn_fits t n,adf n,z,ah⟩
def adg {t:SetTable}(h:t.slot j=.empty):t.place[SetTable.below t.place j]?≠some j:=by intro B;unfold SetTable.slot at h;dsimp only at h;rw[B] at h;simp at h
def adh {t:SetTable}(hd:t.dummies= #[])(j):t.slot j=.empty\/∃i,t.slot j=.live i:=by
 unfold SetTable.slot;dsimp only;split;·exact .inr ⟨_,z⟩
 ·have:SetTable.has t.dummies j=false:=by rw[hd];simp[SetTable.has,SetTable.below,SetTable.below.go]
  rw[this];exact .inl z
theorem Sw (hd:t.dummies= #[])(hashAt)(h)(ek:∀i,hashAt i≠h):∀(f:Nat)(p:SetTable.Probe),p.dummy=none->∀m,SetTable.probe.go t hashAt h f p=some m->∃j,m=.empty j none/\t.slot j=.empty
 |0,p,_,m,e=>by cases e
 |f+1,p,ar,m,e=>by
  unfold SetTable.probe.go at e;rcases adh hd p.j with q|⟨i,q⟩
  ·rw[q] at e;cases e;exact⟨p.j,by rw[ar],q⟩
  ·rw[q] at e;dsimp only at e;rw[ay (by simpa using ek i)] at e;refine Sw hd hashAt h ek f _ ?_ m e;unfold SetTable.advance;split
   ·exact ar
   ·exact ar
def adi {t:SetTable}(hd:t.dummies= #[])(e:t.freeSlot h=some (j,b)):t.slot j=.empty:=by
 unfold SetTable.freeSlot at e;cases q:t.probe (λ _=>h+1) h (t.probeStart h) with
 |none=>rw[q] at e;cases e
 |some m=>obtain⟨_,rfl,au⟩:=Sw hd (λ _=>h+1) h (λ _ _=>by omega) _ _ z m q;rw[q] at e;cases e;exact au
def adj (T:Tab dC t ae.size)(h)(x):Tab dC (layNew t ae h x).2.1 (layNew t ae h x).1.size:=by
 have aS:=layNew_fits t ae h x;unfold layNew at aS⊢;cases e:t.freeSlot h with
 |none=>rw[e] at aS;exact⟨aS,(Bw (ae.size+1) T.led).rise,z,T.led⟩
 |some q=>
  obtain⟨j,b⟩:=q;rw[e] at aS;dsimp only at aS⊢;have a0:=adg (adi T.GN e);have adk:(t.put j).1.dummies= #[]:=by
   unfold SetTable.put;rw[T.GN];have:SetTable.has #[] j=false:=by simp[SetTable.has,SetTable.below,SetTable.below.go]
   rw[this];rfl
  unfold SetTable.orStandIn at aS⊢;split
  ·rename_i adl;rw[aA adl] at aS;exact⟨aS,ade T.rise a0,adk,T.led⟩
  ·exact Bw _ T.led
def adm (T:Tab dC t ae.size)(n):Tab dC (relayAll t ae n).2.1 (relayAll t ae n).1.size:=by
 have aS:=relayAll_fits t ae n;unfold relayAll at aS⊢;cases e:t.relaid (ae.map (·.1)) n with
 |none=>exact Bw _ T.led
 |some q=>
  obtain⟨t',e9⟩:=q;rw[e] at aS;dsimp only at aS⊢;split
  ·rename_i ak;rw[aA ak] at aS;unfold SetTable.relaid SetTable.laid at e;cases ao:SetTable.layClean (SetTable.sizeAbove n - 1) (ae.map (·.1)) with
   |none=>rw[ao] at e;cases e
   |some GO=>
    rw[ao] at e;cases e;refine⟨aS,?_,z,T.led⟩;unfold kA;generalize SetTable.sizeAbove n - 1+1=m;have key:∀l:List Nat,l.Pairwise (· < ·)->((l.filterMap λ j=>(GO.getD j none).map (j,·)).map (·.1)).Pairwise (· < ·)/\∀y∈(l.filterMap λ j=>(GO.getD j none).map (j,·)).map (·.1),y∈l:=by
     intro l;induction l with
     |nil=>intro _;exact⟨⇑2,⇑2⟩
     |cons a r ih=>
      intro ar;obtain⟨D,G⟩:=im.mp ar;obtain⟨fa,dm⟩:=ih G;rw[gd];cases GO.getD a none with
      |none=>exact⟨fa,λ y aC=>cu _ (dm y aC)⟩
      |some k=>
       refine⟨im.mpr ⟨λ y aC=>D y (dm y aC),fa⟩,λ y aC=>?_⟩;rcases bN.mp aC with rfl|aC
       ·exact cn
       ·exact cu _ (dm y aC)
    exact(key _ DI).1
  ·exact Bw _ T.led
open PySem PyProof.Rows
section
variable{prog:Program}{w:World}{K:Type}[DecidableEq K](knd:KeyKind prog w K)
def fW (w:World):Bool:=w.params.followText "set-order"
def Sep (l:List (Int×Value)):Prop:=l.Pairwise λ e ao=>∀k,knd.is k e.2=true->knd.is k ao.2=true->False
structure iY (h:Heap)(a:Addr)(S:K->Bool)(ae:Array (Int×Value))(ep:Nat)(t:SetTable):Prop where
 at_:h.get? a=some {cls:=.type "set",dict:=none,data:=.set ae ep t,slots:= #[]}
 hE:ElemsOf knd ae.toList
 sep:Sep knd ae.toList
 mem:∀k,S k=true↔∃e∈ae.toList,knd.is k e.2=true
 jR:ae.size<scanBound
 tab:Tab (!fW w) t ae.size
variable{knd}
variable{A:Around}{E:Value->Shared->Prop}{s:Shared}
def Sep.perm (h:Sep knd l)(p:List.Perm m l):Sep knd m:=(NG (λ {_ _} q k D G=>q k G D) p).mpr h
def iY.up (x:iY knd h a S ae ep t)(k:G.get? a=h.get? a):iY knd G a S ae ep t:=⟨k.trans x.at_,x.hE,x.sep,x.mem,x.jR,x.tab⟩
def Sx (x:iY knd h a S ae ep t)(D:ElemsOf knd f_.toList)(G:Sep knd f_.toList)(an:∀k,S2 k=true↔∃e∈f_.toList,knd.is k e.2=true)
  (aU:f_.size<scanBound) (bY:Tab (!fW w) cG f_.size):iY knd (h.update a (Obj.putSet f_ cG)) a S2 f_ (ep+1) cG:=by
 refine⟨?_,D,G,an,aU,bY⟩;have:=rk (Obj.putSet f_ cG) x.at_ (by rw[putSet_of f_ cG z];rfl);rw[putSet_of f_ cG z] at this;exact this
def Sy {g:Bool->Sem Unit}(bL:∀(b:Bool)(al:Shared)(qC:Unit->Shared->Prop),qC () al->⇑5 (g b) qC E al)
  {a:Addr} {S S2:K->Bool} {ae f':Array (Int×Value)} {ep:Nat} {t cG:SetTable} (X:iY knd s.heap a S ae ep t) (ya:ElemsOf knd f'.toList) (yb:Sep knd f'.toList) (yc:∀k,S2 k=true↔∃e∈f'.toList,knd.is k e.2=true)
  (sn:f'.size<scanBound) (uR:Tab (!fW w) cG f'.size) {Bx:Bool} {R:Option Bool->Shared->Prop}
  (go:∀G f_ na GP,Heap.SameBut a s.heap G->iY knd G a S2 f_ na GP->f_.size=f'.size->R (some true) {s with heap:=G}):
  ⇑5 (do
    storeSet a f' cG
    if (!Bx&&cG.tooFull)=true then do
      g (relayAll cG f' (SetTable.grown f'.size)).2.2
      storeSet a (relayAll cG f' (SetTable.grown f'.size)).1 (relayAll cG f' (SetTable.grown f'.size)).2.1
      pure (some true)
     else pure (some true)) R E s:=by
 have GQ:=Sx X ya yb yc sn uR;refine aL (wpAny_storeSet_of X.at_ z ?_ (fits_of_scanBound sn));have Sz:=wF s.heap a (Obj.putSet f' cG);split
 ·have iv:=relayAll_perm cG f' (SetTable.grown f'.size);have gz:=adm uR (SetTable.grown f'.size);generalize relayAll cG f' (SetTable.grown f'.size)=ef at iv gz⊢;obtain⟨f_,GP,_⟩:=ef;dsimp only at iv gz⊢;have GR:f_.size=f'.size:=by rw[<-nC,iv.length_eq,nC]
  refine aL (bL _ _ _ ?_);refine aL (wpAny_storeSet_of GQ.at_ z ?_ (fits_of_scanBound (by rw[GR];exact sn)));have so:=Sx (S2:=S2) GQ (ya.perm iv) (yb.perm iv) (λ cU=>(yc cU).trans ⟨λ⟨e,a3,q⟩=>⟨e,iv.mem_iff.mpr a3,q⟩,λ⟨e,a3,q⟩=>⟨e,iv.mem_iff.mp a3,q⟩⟩) (by rw[GR];exact sn) gz;exact bq (go _ f_ _ GP (Sz.trans (wF _ a _)) so GR)
 ·exact bq (go _ f' _ cG Sz GQ z)
def adn (ax:knd.is k v=true)(au:v.scannable=true)(X:iY knd s.heap a S ae ep t)(ab:ae.size+1<scanBound)
  (go:∀b G f_ na cG,Heap.SameBut a s.heap G->iY knd G a (λ cU=>S cU||decide (cU=k)) f_ na cG->f_.size<=ae.size+1->Q b {s with heap:=G}):
  ⇑5 (setAddHashed a v (knd.hash k)) Q E s:=by
 unfold setAddHashed setAddHashedIn;refine hs (aL (tz X.at_ z X.tab.fits ?_));dsimp only;rw[byScan_of au X.jR X.hE];simp only[↓reduceIte];unfold setAddByScan;refine aL (aL (lA (aL (wpAny_setScan_of ax X.at_ z X.tab.fits X.hE ?_))));cases e:List.findIdx? (λ e=>knd.is k e.2) ae.toList with
 |some j=>
  obtain⟨a0,ar,_⟩:=List.findIdx?_eq_some_iff_getElem.mp e;have a8:=(X.mem k).mpr ⟨ae.toList[j],tw a0,ar⟩;refine bq (bq ?_);have ao:s={s with heap:=s.heap}:=by cases s;rfl
  have q:=go false s.heap ae ep t (Heap.SameBut.refl a s.heap) ⟨X.at_,X.hE,X.sep,λ cU=>?_,X.jR,X.tab⟩ (mz _);·rw[ao];exact q
  ·rw[jB,fG,<-X.mem cU];exact⟨λ B=>B.elim id λ y=>y▸a8,.inl⟩
 |none=>
  have dK:=List.findIdx?_eq_none_iff.mp e;have ado:∀(b:Bool){al:Shared}{qC:Unit->Shared->Prop},qC () al->⇑5 (match b with|true=>rule "set.scan.the-table-gave-way"|false=>pure ()) qC E al:=λ b al qC q=>by cases b<;>first|exact bq q|exact lA q
  have ar:=layNew_perm t ae (knd.hash k) v;have a_:=adj X.tab (knd.hash k) v;generalize layNew t ae (knd.hash k) v=dC at ar a_⊢;obtain⟨f',fR,_,_⟩:=dC;dsimp only at ar a_⊢;rw[N'] at ar;have ya:=(X.hE.push ax au).perm ar;have yc:=mem_push_iff ax X.mem ar;have GS:f'.size=ae.size+1:=by rw[<-nC,ar.length_eq,cX,nC];rfl
  have yb:Sep knd f'.toList:=by refine Sep.perm (l:=ae.toList++[(knd.hash k,v)]) ?_ ar;refine tq.mpr ⟨X.sep,⇑2,λ ap D ao G cU q1 bb=>?_⟩;rw[dL.mp G] at bb;have:=knd.inj v cU k bb ax;rw[this] at q1;rw[dK ap D] at q1;cases q1
  have sn:f'.size<scanBound:=by rw[GS];exact ab
  refine aL (ado _ ?_);split
  ·refine aL ?_;rw[hashByValue_scannable 8 au];refine bq ?_;have uR:Tab (!fW w) (if plainKind v=true then fR else {fR with plain:=false}) f'.size:=by
    split;·exact a_
    ·exact⟨SetTable.fits_plain_off a_.fits,a_.rise,a_.GN,a_.led⟩
   refine Sy ?_ X ya yb yc sn uR λ G f_ na cG d8 so e_=>?_;·intro b al qC q;cases b<;>first|exact bq q|exact lA q
   ·exact bq (go true G f_ na cG d8 so (by rw[e_,GS];exact bG _))
  ·refine aL (bq ?_);simp only[↓reduceIte];refine Sy ?_ X ya yb yc sn a_ λ G f_ na cG d8 so e_=>?_
   ·intro b al qC q;cases b<;>first|exact bq q|exact lA q
   ·exact bq (go true G f_ na cG d8 so (by rw[e_,GS];exact bG _))
end
section
variable{prog:Program}{w:World}{K:Type}[DecidableEq K]{knd:KeyKind prog w K}
variable{A:Around}{R:Result->Shared->Prop}{I:Addr}{b2 n':List Addr}{n:Nat}{P:Nat->Value->Prop}{St:Nat->Heap->Prop}
def adp (W:Walks prog w A.in1 I b2 n' n P St)(ds)(pr:ds∉b2)(val:Nat->K)(ba:∀i v,P i v->knd.is (val i) v=true/\v.scannable=true)(Y:n+1<scanBound):
  ∀(k i:Nat)(s:Shared)(S:K->Bool)(ae:Array (Int×Value))(ep:Nat)(t:SetTable),n - i=k->i<=n->St i s.heap->iY knd s.heap ds S ae ep t->(∀q,S q=true↔∃j,j<i/\val j=q)->ae.size<=i->
   (∀G cU S2 f_ na cG,(∀b o,b∉n'->b≠ds->s.heap.get? b=some o->G.get? b=some o)->iY knd G ds S2 f_ na cG->(∀q,S2 q=true↔∃j,j<n/\val j=q)->R (.ok (.ret .none)) {s with heap:=G,toks:=cU})->
   codeAny (model prog w) A (.builtin "set.update.loop" ⟨[.ref ds,.ref I],[]⟩) R s:=by
 have j0:ds∉n':=λ q=>pr (W.sub _ q);intro k;induction k with
 |zero=>
  intro i s S ae ep t ax aj st X a8 hz go;have el:i=n:=by omega
  subst el;refine ly F.entry_set_update_loop ?_;rw[nB DT _];refine aL (W.done s _ _ st λ G cU et=>?_);exact bq (go G cU S ae ep t (λ b o ca _ q=>et b o ca q) (X.up ((et ds _ j0 X.at_).trans X.at_.symm)) a8)
 |succ k ih=>
  intro i s S ae ep t ax aj st X a8 hz go;have lt:i<n:=by omega
  refine ly F.entry_set_update_loop ?_;rw[nB DT _];refine aL (W.item i s _ _ lt st λ v G cU dH mI et=>?_);obtain⟨D,an⟩:=ba i v dH;have so:=X.up ((et ds _ j0 X.at_).trans X.at_.symm);refine aL (hs ?_);unfold setAdd;refine hs (aL (knd.pyHash (k:=val i) D ?_));refine adn (s:={s with heap:=G,toks:=cU+1}) D an so ⇑1 λ b _ adq adr Br d8 fV _=>?_;refine bq ⟨lz DT _,ih (i+1) _ _ adq adr Br ⇑1 lt (W.frame _ _ _ mI λ c ak o e=>?_) fV (λ q=>?_) ⇑1 λ bY ads nc adt adu adv a' a5 bn=>?_⟩;·exact(d8.2 c (λ B:c=ds=>pr (by rw[<-B];exact ak))).trans e
  ·rw[jB,fG,a8 q];constructor
   ·rintro(⟨j,adw,uS⟩|B)
    ·exact⟨j,⇑1,uS⟩
    ·exact⟨i,nF _,B.symm⟩
   ·rintro⟨j,adw,uS⟩;by_cases B:j=i
    ·subst B;exact .inr uS.symm
    ·exact .inl ⟨j,⇑1,uS⟩
  ·exact go bY ads nc adt adu adv (λ c o ca cp q=>a' c o ca cp ((d8.2 c cp).trans (et c o ca q))) a5 bn
end
section
variable{prog:Program}{w:World}{K:Type}[DecidableEq K]{knd:KeyKind prog w K}
variable{A:Around}{E:Value->Shared->Prop}{s:Shared}
def adx (v)(go:Q1 (.ref ⇑s) {s with heap:=s.heap.push {cls:=.type "set",dict:=none,data:=.set #[] 0 (.fresh 0 0 (!fW w))}}):
  codeAny (model prog w) A (.call (.builtin "set.__new__") ⟨[.type "set",v],[]⟩) (wants Q1 E) s:=by
 refine Ea ?_;show wpAny _ A.in1 (do checkBuiltinCall "set.__new__" ⟨[.type "set",v],[]⟩;again (.builtin "set.__new__" ⟨[.type "set",v],[]⟩)) _ _ s;refine aL (tJ (F.newCall_set_1 v) (bq ⟨lz F.plain_set_new _,ly F.entry_set_new ?_⟩));rw[nB F.plain_set_new _];unfold Builtin.«set.__new__» Builtin.Frozenset.newClass;have acD:=sub_set_self;obtain⟨_,_,_,_,_⟩:=s
 wp_walk
 refine wK (bq ?_);simp only[newObj];refine aL (wpAny_alloc (bq ?_));exact bq go
def ady (e:h.get? a=some {cls:=.type "set",dict:=none,data:=.set #[] 0 (.fresh 0 0 (!fW w))}):iY knd h a (λ _=>false) #[] 0 (.fresh 0 0 (!fW w)):=⟨e,λ e a3=>by simp at a3,List.Pairwise.nil,λ _=>by simp,⇑0,⟨by rfl,List.Pairwise.nil,z,z⟩⟩
def SA {ks:Nat->K}(b3:A.handled=none)(ah:s.heap.IsList l xs)(ba:∀i v,xs[i]?=some v->knd.is (ks i) v=true/\v.scannable=true)(Y:xs.size+1<scanBound)
  (go:∀G cU S ae ep t,(∀b o,s.heap.get? b=some o->G.get? b=some o)->⇑s<G.objs.size->iY knd G ⇑s S ae ep t->(∀q,S q=true↔∃j,j<xs.size/\ks j=q)->Q (.ref ⇑s) {s with heap:=G,toks:=cU}):
  ⇑5 (call (.type "set") [.ref l]) Q E s:=by
 obtain⟨c,bl,cD⟩:=tI.mro;have ap:=tI.made;have ao:=tI.sub;refine tL (Ea ?_);refine bq ⟨Code.quiet_builtin _ (by decide+kernel),ly F.entry_type_call ?_⟩;rw[Around.under_plain (Op "set" [.ref l] []) z]
 repeat (any_goals (first|assumption|wp_step))
 refine oV (adx (.ref l) (E:=E) (Q1:=λ o t=>o=.ref ⇑s/\t={s with heap:=s.heap.push {cls:=.type "set",dict:=none,data:=.set #[] 0 (.fresh 0 0 (!fW w))}}) ⟨z,z⟩) ?_;rintro(x|f8) t ab;·exact ab
 cases f8 with
 |ret o=>
  obtain⟨rfl,rfl⟩:=ab;have a8:=eU s.heap (o:={cls:=.type "set",dict:=none,data:=.set #[] 0 (.fresh 0 0 (!fW w))}) z;have aM:Shared.TypeIs {s with heap:=s.heap.push {cls:=.type "set",dict:=none,data:=.set #[] 0 (.fresh 0 0 (!fW w))}} (.ref ⇑s) "set":=⟨_,a8,z⟩;have n4:=tI.init.lookup;have x5:=tI.init.bind (.ref ⇑s)
  repeat (any_goals (first|assumption|wp_step))
  refine oV (wE (R:=wants (λ r cG=>r=.none/\∃G cU S ae ep dd,cG={s with heap:=G,toks:=cU}/\(∀b o,s.heap.get? b=some o->G.get? b=some o)/\iY knd G ⇑s S ae ep dd/\∀q,S q=true↔∃j,j<xs.size/\ks j=q) E) tI.init.plain F.entry_set_init (check_set_init_1 aM ?_)) ?_
  ·obtain⟨ol,SD,fC,bk,oa⟩:=ah;obtain⟨i9,adz,ak9,t5⟩:=ol;simp only at fC oa;subst fC oa;have adA:(s.heap.push {cls:=.type "set",dict:=none,data:=.set #[] 0 (.fresh 0 0 (!fW w))}).get? l=some {cls:=.type "list",dict:=adz,data:=.seq xs bk,slots:=t5}:=dq _ SD;have e':=F.sub_list_set;have eZ:=F.sub_list_frozenset;have iU:(s.heap.push {cls:=.type "set",dict:=none,data:=.set #[] 0 (.fresh 0 0 (!fW w))}).IsList l xs:=⟨_,adA,z,bk,z⟩;unfold Builtin.«set.__init__» noKeywords Builtin.Frozenset.updateFrom;generalize adB:pyIter=nQ
   wp_walk
   subst adB;refine p1 iU ?_;refine aL (wpAny_runValue ?_);have By:=c2 SD;have an:A.in1.in1.in1.handled=none:=by simp[b3]
   have iC:=g5 s.heap {cls:=.type "set",dict:=none,data:=.set #[] 0 (.fresh 0 0 (!fW w))};have adC:l≠(s.heap.push {cls:=.type "set",dict:=none,data:=.set #[] 0 (.fresh 0 0 (!fW w))}).objs.size:=by rw[iC];exact er (mx By)
   have kf:⇑s∉[(s.heap.push {cls:=.type "set",dict:=none,data:=.set #[] 0 (.fresh 0 0 (!fW w))}).objs.size,l]:=λ q=>by
    rw[iC] at q;rcases bN.mp q with q|q
    ·exact absurd q (er (nF _))
    ·exact absurd (dL.mp q) (p7 By)
   refine adp (knd:=knd) (zY an _ l adC xs) ⇑s kf ks (λ i v q=>ba i v q) Y xs.size 0 _ (λ _=>false) #[] 0 _ ⇑1 (cQ _) ⟨⟨_,eU _ z,z,z⟩,iU.push _⟩
    (ady (dq _ a8)) (λ q=>by simp) (cQ _) λ G cU S2 f_ na cG a' a5 bn=>?_
   refine bq ?_;refine bq ⟨z,G,cU,S2,f_,na,cG,z,λ b o q=>?_,a5,bn⟩;have pc:=c2 q;refine a' b o (λ B=>?_) (er pc) (dq _ (dq _ q));have B:=dL.mp B;rw[iC] at B;exact absurd pc (by rw[B];exact wU.mpr (mz _))
  ·rintro(x|f8) cG l8
   ·exact l8
   cases f8 with
   |ret r=>
    obtain⟨rfl,G,cU,S,ae,ep,dd,rfl,a',a5,bn⟩:=l8
    repeat (any_goals (first|assumption|wp_step))
    exact go G cU S ae ep dd a' (c2 a5.at_) a5 bn
   |_=>exact l8.elim
 |_=>exact ab.elim
end
theorem GU {bO:Type}:∀{l:List bO}{i:Nat}{x:bO},l[i]?=some x->List.Perm (x::l.eraseIdx i) l
 |[],i,x,h=>by cases h
 |y::r,0,x,h=>by cases h;exact D8 _
 |y::r,i+1,x,h=>by have ih:=GU (l:=r) (i:=i) ↥h;rw[List.eraseIdx_cons_succ];exact(List.Perm.swap _ _ _).trans (ih.cons y)
section
variable{dU:Model}{A:Around}{E:Value->Shared->Prop}
def adD (aB:n≠0)(h:∀i d,i<n->Q i {s with drawn:=d}):wpAny dU A (choose jn n) Q E s:=λ _ _ _=>⟨aB,h _ _ (Ef _ (Nat.pos_of_ne_zero aB))⟩
theorem SE {bO:Type}:∀(n:Nat)(xs:List bO)(s:Shared)(Q:List bO->Shared->Prop),n=xs.length->(∀ys d,List.Perm ys xs->Q ys {s with drawn:=d})->wpAny dU A (drawOrder n xs) Q E s
 |0,[],s,Q,_,h=>bq (by have:=h [] s.drawn (D8 _);cases s;exact this)
 |0,_::_,s,Q,e,_=>by cases e
 |n+1,[],s,Q,e,_=>by cases e
 |n+1,x::r,s,Q,e,h=>by
  unfold drawOrder;refine aL (adD ⇑2 λ i d aj=>?_);have aa:=ez aj;rw[aa];have ah:n=((x::r).eraseIdx i).length:=by rw[wB,aA aj,<-e];rfl
  refine aL (SE n _ {s with drawn:=d} _ ah λ ys pa ar=>bq ?_);exact h _ pa ((ar.cons _).trans (GU aa))
end
theorem SF {bO:Type}(f:Nat->Nat):∀(n k:Nat)(l:List bO)(out:Array bO),n=l.length->List.Perm (pickOrder.go f n k l out).toList (out.toList++l)
 |0,k,l,out,e=>by have:l=[]:=NB.mp e.symm;subst this;unfold pickOrder.go;rw[hr]
 |n+1,k,l,out,e=>by unfold pickOrder.go;have c6:f k % l.length<l.length:=Ef _ ⇑1;have aa:=ez c6;rw[aa];have ih:=SF f n (k+1) (l.eraseIdx (f k % l.length)) (out.push l[f k % l.length]) (by rw[wB,aA c6];omega);refine ih.trans ?_;rw[N',iL];exact(GU aa).append_left _
def GV (f)(xs:Array bO):List.Perm (pickOrder f xs).toList xs.toList:=by have:=SF f xs.size 0 xs.toList #[] ⇑2;simpa[pickOrder] using this
def oc:Slot "set_iterator" "__next__" "set_iterator.__next__":=.of (owner:="set_iterator") (n:="__next__") (by rw[typeLookup_type,Oq];kernel_rfl) (by decide+kernel) (by decide+kernel) (by decide+kernel) (by first|exact .inl (by decide+kernel)|exact .inr (by decide+kernel)) (by rw[Ed];kernel_rfl)
def Bz:entryFor table "set_iterator.__next__"=some Builtin.«set_iterator.__next__»:=entryFor_of_tree (by kernel_rfl)
def BA (a):argsOk "set_iterator.__next__" ⟨[a],[]⟩:=by unfold argsOk;kernel_rfl
def adE:entryFor table "set.__iter__"=some Builtin.«frozenset.__iter__»:=entryFor_alias (id':="frozenset.__iter__") (by rw[fastTable_eq_tree];kernel_rfl) z (by decide+kernel) (by rw[fastTable_eq_tree];kernel_rfl)
section
variable{prog:Program}{w:World}{A:Around}{E:Value->Shared->Prop}{s:Shared}{a I:Addr}{ae:Array (Int×Value)}{ep n i:Nat}{t:SetTable}
abbrev lb (ae:Array (Int×Value))(ep:Nat)(t:SetTable):Obj:={cls:=.type "set",dict:=none,data:=.set ae ep t,slots:= #[]}
abbrev l9 (first:Value)(i:Int)(a:Addr)(n ep:Nat):Obj:={cls:=.type "set_iterator",data:=.fields #[first,rawInt i,.ref a,rawInt n,rawInt ep]}
def asks (h:⇑5 (k (fW w)) Q E s):⇑5 (setsByText >>= k) Q E s:=by unfold setsByText;exact aL (aL (wK (bq h)))
def SG (Y:fW w=true)(az:s.heap.get? a=some (lb ae ep t))(aS:t.fits ae.size=true)
  (h:Q (((pickOrder (w.params.setOrder a ep) ae)[i]?).map λ e=>(e.2,slot)) s):⇑5 (setNext a slot i ep) Q E s:=by
 unfold setNext;refine aL (tz az z aS (asks ?_));rw[Y];simp only[iq,tt,il,ip];refine aL ?_;unfold setWalk;refine aL (tz az z aS (asks ?_));rw[Y];simp only[iq];refine aL (wK (bq ?_));exact bq h
def SH (Y:fW w=false)(az:s.heap.get? a=some (lb ae ep t))(T:Tab (!fW w) t ae.size)(hd:t.plain=true\/ae.size<=1)
  (h:Q (match ae[SetTable.below t.place slot]?,t.place[SetTable.below t.place slot]? with
   |some (_,x),some j=>some (x,j+1)
   |_,_=>none) s):⇑5 (setNext a slot i ep) Q E s:=by
 unfold setNext;refine aL (tz az z T.fits (asks ?_));have ah:t.led=true:=by rw[T.led,Y];rfl
 have qD:(!t.plain&&decide (ae.size>1))=false:=by
  rcases hd with B|B;·rw[B];rfl
  ·rw[eA ⇑1,D3]
 rw[Y];simp only[il,ip];show wpAny _ _ (if (!t.plain&&decide (ae.size>1))=true then _ else _) _ _ _;rw[qD];simp only[il,ip];show wpAny _ _ ((if (!t.led&& !ae.isEmpty)=true then unsupported _ else pure ()) >>= _) _ _ _;rw[ah];simp only[Bool.not_true,zL,il,ip];exact aL (bq (bq h))
def SI (b3:A.handled=none)(go:∀G x,(∀b o,s.heap.get? b=some o->G.get? b=some o)->(∃o,G.get? x=some o/\o.cls=.type "StopIteration")->E (.ref x) {s with heap:=G}):
  ⇑5 (newExc (.type "StopIteration") [] >>= λ x=>(raiseNew x:Sem bO)) Q E s:=by
 refine aL ?_;simp only[newExc,newTuple];refine aL (tx ?_ (by size_fits));refine aL (m:=firstArgMember _ _) (tJ (a:=Value.none) (by first|rfl|(simp only[firstArgMember];rfl)) (tx ?_ (by size_fits)));refine wpAny_raiseNew_none b3 (go _ _ (λ b o q=>dq _ (dq _ q)) ⟨_,eU _ z,z⟩)
def SJ {slot slot2:Nat}(gu:s.heap.get? I=some (l9 (rawInt slot) i a ae.size ep))(az:s.heap.get? a=some (lb ae ep t))(aS:t.fits ae.size=true)(a7:∀A E Q,Q (some (x,slot2)) s->⇑5 (setNext a slot i ep) Q E s)(go:∀G,G.get? I=some (l9 (rawInt slot2) ((i+1:Nat):Int) a ae.size ep)->Heap.SameBut I s.heap G->Q (some x) {s with heap:=G}):⇑5 (pyNext (.ref I)) Q E s:=by have ty:s.TypeIs (.ref I) "set_iterator":=⟨_,gu,z⟩;unfold pyNext;refine aL (tG (tm (name:=Str.ofString "__next__") ty oc (nH oc ty Bz ?_ (BA _))));unfold Builtin.«set_iterator.__next__»;show wpAny _ _ (fieldsOf (.ref I) >>= _) _ _ s;refine aL ?_;unfold fieldsOf;refine aL (zX gu ?_);refine bq ?_;refine aL (wG az z aS ?_);simp only[tt,il,ip];refine aL (a7 _ _ _ ?_);refine aL (mw gu ⇑2 λ G eZ (aq:Heap.SameBut I s.heap G)=>?_);refine aL (mw eZ ⇑2 λ an eh (aO:Heap.SameBut I G an)=>?_);exact bq ⟨_,z,bq (go an eh (aq.trans aO))⟩
def SK {slot:Nat}(b3:A.handled=none)(gu:s.heap.get? I=some (l9 (rawInt slot) i a ae.size ep))(az:s.heap.get? a=some (lb ae ep t))(aS:t.fits ae.size=true)(a7:∀A E Q,Q none s->⇑5 (setNext a slot i ep) Q E s)(go:∀G,(∀b o,b≠I->s.heap.get? b=some o->G.get? b=some o)->Q none {s with heap:=G}):⇑5 (pyNext (.ref I)) Q E s:=by have ty:s.TypeIs (.ref I) "set_iterator":=⟨_,gu,z⟩;unfold pyNext;refine aL (tG (tm (name:=Str.ofString "__next__") ty oc (nH oc ty Bz ?_ (BA _))));unfold Builtin.«set_iterator.__next__»;show wpAny _ _ (fieldsOf (.ref I) >>= _) _ _ s;refine aL (Ee gu z ?_);refine aL (wG az z aS ?_);simp only[tt,il,ip];refine aL (a7 _ _ _ ?_);refine aL (mw gu ⇑2 λ G _ (aq:Heap.SameBut I s.heap G)=>?_);refine SI (A:=A.in1) b3 λ an _ f5 ⟨o,aT,ak⟩=>?_;refine aL (zN (T:="StopIteration") (b:=true) ⟨o,aT,ak⟩ Ec (bq (go an λ b o nb q=>?_)));exact f5 b o ((aq.2 b nb).trans q)
def adF {c j:Nat}(gu:s.heap.get? I=some (l9 (.ref P) i a ae.size ep))(az:s.heap.get? a=some (lb ae ep t))(aS:t.fits ae.size=true)
  (dH:s.heap.get? P=some {cls:=.type "tuple",data:=.seq pl c}) (a0:pl[i]?=some (rawInt j)) (aa:ae[j]?=some x)
  (go:∀G,G.get? I=some (l9 (.ref P) ((i+1:Nat):Int) a ae.size ep)->Heap.SameBut I s.heap G->Q (some x.2) {s with heap:=G}):⇑5 (pyNext (.ref I)) Q E s:=by
 have ty:s.TypeIs (.ref I) "set_iterator":=⟨_,gu,z⟩;unfold pyNext;refine aL (tG (tm (name:=Str.ofString "__next__") ty oc (nH oc ty Bz ?_ (BA _))));unfold Builtin.«set_iterator.__next__»;show wpAny _ _ (fieldsOf (.ref I) >>= _) _ _ s;refine aL (Ee gu z ?_);refine aL (wG az z aS ?_);simp only[tt,il,ip];refine aL (tE dH z ?_);have e:pl[((i:Nat):Int).toNat]?=some (rawInt j):=by simpa using a0
 simp only[e];show wpAny _ _ (setNextDrawn a j ep >>= _) _ _ s;refine aL ?_;unfold setNextDrawn;refine aL (tz az z aS ?_);simp only[tt,il,ip,aa];refine bq ?_;refine aL (mw gu ⇑2 λ G eZ (aq:Heap.SameBut I s.heap G)=>?_);exact bq ⟨_,z,bq (go G eZ aq)⟩
def adG (b3:A.handled=none)(gu:s.heap.get? I=some (l9 (.ref P) i a ae.size ep))(az:s.heap.get? a=some (lb ae ep t))(aS:t.fits ae.size=true)
  (dH:s.heap.get? P=some {cls:=.type "tuple",data:=.seq pl c}) (a0:pl[i]?=none)
  (go:∀G,(∀b o,b≠I->s.heap.get? b=some o->G.get? b=some o)->Q none {s with heap:=G}):⇑5 (pyNext (.ref I)) Q E s:=by
 have ty:s.TypeIs (.ref I) "set_iterator":=⟨_,gu,z⟩;unfold pyNext;refine aL (tG (tm (name:=Str.ofString "__next__") ty oc (nH oc ty Bz ?_ (BA _))));unfold Builtin.«set_iterator.__next__»;show wpAny _ _ (fieldsOf (.ref I) >>= _) _ _ s;refine aL (Ee gu z ?_);refine aL (wG az z aS ?_);simp only[tt,il,ip];refine aL (tE dH z ?_);have e:pl[((i:Nat):Int).toNat]?=none:=by simpa using a0
 simp only[e];refine aL (mw gu ⇑2 λ G eZ (aq:Heap.SameBut I s.heap G)=>?_);refine aL (mw eZ ⇑2 λ an _ (aO:Heap.SameBut I G an)=>?_);refine SI (A:=A.in1) b3 λ aU _ qA ⟨o,aT,ak⟩=>?_;refine aL (zN (T:="StopIteration") (b:=true) ⟨o,aT,ak⟩ Ec (bq (go aU λ b o nb q=>?_)));exact qA b o ((aO.2 b nb).trans ((aq.2 b nb).trans q))
end
def adH (h:kA xs):SetTable.below xs 0=0:=by
 obtain⟨_,a5,_⟩:=GL h 0;by_cases B:SetTable.below xs 0=0;·exact B
 ·have:=a5 0 ⇑1 ⇑1;omega
def adI (h:kA xs)(aj:i<xs.size):SetTable.below xs (xs[i]+1)=i+1:=by
 obtain⟨_,a5,bn⟩:=GL h (xs[i]+1);by_cases q1:SetTable.below xs (xs[i]+1)<=i;·have:=bn i aj q1;omega
 ·by_cases bb:SetTable.below xs (xs[i]+1)=i+1
  ·exact bb
  ·have c6:i+1<xs.size:=by omega
   have D:=a5 (i+1) c6 ⇑1;have G:=h.lt (i:=i) (j:=i+1) ⇑1 c6;omega
section
variable{prog:Program}{w:World}{A:Around}{a I P:Addr}{ae:Array (Int×Value)}{ep:Nat}{t:SetTable}
def SM:Slot "set_iterator" "__iter__" "set_iterator.__iter__":=.of (owner:="set_iterator") (n:="__iter__") (by rw[typeLookup_type,Oq];kernel_rfl) (by decide+kernel) (by decide+kernel) (by decide+kernel) (by first|exact .inl (by decide+kernel)|exact .inr (by decide+kernel)) (by rw[Ed];kernel_rfl)
def adJ:entryFor table "set_iterator.__iter__"=some Builtin.«dict_keyiterator.__iter__»:=entryFor_alias (id':="dict_keyiterator.__iter__") (by rw[fastTable_eq_tree];kernel_rfl) z (by decide+kernel) (by rw[fastTable_eq_tree];kernel_rfl)
def adK (v):argsOk "set_iterator.__iter__" ⟨[v],[]⟩:=by unfold argsOk;kernel_rfl
def GW (ty:s.TypeIs (.ref I) "set_iterator")(q:Q (.ref I) s):⇑5 (pyIter (.ref I)) Q E s:=by refine wpAny_pyIter_slot ty SM (nH SM ty adJ ?_ (adK _));unfold Builtin.«dict_keyiterator.__iter__»;exact bq ⟨_,z,"set_iterator",_,ty,oc.lookup,q⟩
def w_text (b3:A.handled=none)(Y:fW w=true)(aS:t.fits ae.size=true)(ne:a≠I):Walks prog w A I [I,a] [I] ae.size (λ i v=>((pickOrder (w.params.setOrder a ep) ae)[i]?).map (·.2)=some v)
  (λ i h=>h.get? I=some (l9 (rawInt (0:Nat)) i a ae.size ep)/\h.get? a=some (lb ae ep t)) where
 sub:=λ b q=>by rw[dL.mp q];simp
 frame:=λ i h G st k=>⟨k I ⇑2 _ st.1,k a ⇑2 _ st.2⟩
 item:=λ i s Q E _ st go=>by
  have ah:(pickOrder (w.params.setOrder a ep) ae).size=ae.size:=by have:=(GV (w.params.setOrder a ep) ae).length_eq;simpa using this
  have aa:(pickOrder (w.params.setOrder a ep) ae)[i]?=some (pickOrder (w.params.setOrder a ep) ae)[i]:=nz ⇑1;refine SJ (slot2:=0) (x:=((pickOrder (w.params.setOrder a ep) ae)[i]).2) st.1 st.2 aS (λ A E Q q=>SG Y st.2 aS (by rw[aa];exact q)) λ G eZ d8=>?_;have:=go _ G s.toks (by rw[aa];rfl) ⟨eZ,(d8.2 a ne).trans st.2⟩ λ b o nb q=>(d8.2 b (λ B=>nb (by simp[B]))).trans q;exact this
 done:=λ s Q E st go=>by
  have ah:(pickOrder (w.params.setOrder a ep) ae).size=ae.size:=by have:=(GV (w.params.setOrder a ep) ae).length_eq;simpa using this
  have aa:(pickOrder (w.params.setOrder a ep) ae)[ae.size]?=none:=zA ⇑1;exact SK b3 st.1 st.2 aS (λ A E Q q=>SG Y st.2 aS (by rw[aa];exact q)) λ G k=>go G s.toks λ b o nb q=>k b o (λ B=>nb (by simp[B])) q
 self:=λ i s Q E st q=>GW ⟨_,st.1,z⟩ q
def adL (b3:A.handled=none)(Y:fW w=false)(T:Tab (!fW w) t ae.size)(hd:t.plain=true\/ae.size<=1)(ne:a≠I):Walks prog w A I [I,a] [I] ae.size (λ i v=>(ae[i]?).map (·.2)=some v)
  (λ i h=>∃slot:Nat,SetTable.below t.place slot=i/\h.get? I=some (l9 (rawInt slot) i a ae.size ep)/\h.get? a=some (lb ae ep t)) where
 sub:=λ b q=>by rw[dL.mp q];simp
 frame:=λ i h G ⟨sl,e,st⟩ k=>⟨sl,e,k I ⇑2 _ st.1,k a ⇑2 _ st.2⟩
 item:=λ i s Q E aj ⟨sl,e,st⟩ go=>by
  have aa:=nz aj;have ar:i<t.place.size:=by rw[T.size];exact aj
  have aK:=nz ar;refine SJ (slot2:=t.place[i]+1) (x:=ae[i].2) st.1 st.2 T.fits (λ A E Q q=>SH Y st.2 T hd (by rw[e,aa,aK];exact q)) λ G eZ d8=>?_;have:=go _ G s.toks (by rw[aa];rfl) ⟨_,adI T.rise ar,eZ,(d8.2 a ne).trans st.2⟩ λ b o nb q=>(d8.2 b (λ B=>nb (by simp[B]))).trans q;exact this
 done:=λ s Q E ⟨sl,e,st⟩ go=>by have aa:ae[ae.size]?=none:=zA (bG _);exact SK b3 st.1 st.2 T.fits (λ A E Q q=>SH Y st.2 T hd (by rw[e,aa];exact q)) λ G k=>go G s.toks λ b o nb q=>k b o (λ B=>nb (by simp[B])) q
 self:=λ i s Q E ⟨sl,e,st⟩ q=>GW ⟨_,st.1,z⟩ q
def adM {ys:List Nat}{c:Nat}(b3:A.handled=none)(aS:t.fits ae.size=true)(aC:List.Perm ys (List.range ae.size))(ne:a≠I)(adN:P≠I):Walks prog w A I [I,a,P] [I] ae.size (λ i v=>((ys[i]?).bind λ j=>ae[j]?).map (·.2)=some v)
  (λ i h=>h.get? I=some (l9 (.ref P) i a ae.size ep)/\h.get? a=some (lb ae ep t)/\h.get? P=some {cls:=.type "tuple",data:=.seq (ys.map λ(j:Nat)=>rawInt j).toArray c}) where
 sub:=λ b q=>by rw[dL.mp q];simp
 frame:=λ i h G st k=>⟨k I ⇑2 _ st.1,k a ⇑2 _ st.2.1,k P ⇑2 _ st.2.2⟩
 item:=λ i s Q E _ st go=>by
  have ah:ys.length=ae.size:=by have:=aC.length_eq;simpa using this
  have a0:ys[i]?=some ys[i]:=ez ⇑1;have hm:ys[i]<ae.size:=by have:=aC.mem_iff.mp (tw (by omega:i<ys.length));simpa using this
  have aa:=nz hm;refine adF (j:=ys[i]) (x:=ae[ys[i]]) st.1 st.2.1 aS st.2.2 (by simp[a0]) aa λ G eZ d8=>?_;have:=go _ G s.toks (by rw[a0];show(ae[ys[i]]?).map _=_;rw[aa];rfl) ⟨eZ,(d8.2 a ne).trans st.2.1,(d8.2 P adN).trans st.2.2⟩ λ b o nb q=>(d8.2 b (λ B=>nb (by simp[B]))).trans q;exact this
 done:=λ s Q E st go=>by
  have ah:ys.length=ae.size:=by have:=aC.length_eq;simpa using this
  exact adG b3 st.1 st.2.1 aS st.2.2 (by simp[ah]) λ G k=>go G s.toks λ b o nb q=>k b o (λ B=>nb (by simp[B])) q
 self:=λ i s Q E st q=>GW ⟨_,st.1,z⟩ q
end
section
variable{prog:Program}{w:World}{A:Around}{E:Value->Shared->Prop}{s:Shared}{a:Addr}{ae:Array (Int×Value)}{ep:Nat}{t:SetTable}
theorem GX {bO fH:Type}{f g:bO->Option fH}:∀{l:List bO},(∀x∈l,f x=g x)->l.filterMap f=l.filterMap g
 |[],_=>rfl
 |x::l,h=>by rw[gd,gd,h x ⇑2,GX (l:=l) λ y aC=>h y (by simp[aC])]
def adO (ae:Array (Int×Value))(i:Nat):((List.range ae.size).filterMap λ j=>(ae[j]?).map (·.2))[i]?=(ae.toList.map (·.2))[i]?:=by
 have e:(List.range ae.size).filterMap (λ j=>(ae[j]?).map (·.2))=ae.toList.map (·.2):=by
  have D:(List.range ae.size).filterMap (λ j=>(ae[j]?).map (·.2))=(List.range ae.size).filterMap (λ j=>some ((ae.toList.map (·.2)).getD j default)):=by
   refine GX λ j a0=>?_;have a0:=List.mem_range.mp a0;have qE:j<ae.toList.length:=by simpa using a0
   rw[nz a0,mr,d5,ez qE];simp
  rw[D];refine DS λ k=>?_;rw[NH,d5];by_cases ax:k<ae.size
  ·rw[List.getElem?_range ax];simp[mr,ax]
  ·rw[wy ↥ax,wy ↥ax];rfl
 rw[e]
def adP (ar:List.Perm ys (List.range ae.size))(i)(v)(aj:i<ae.size)(ba:((ys[i]?).bind λ j=>ae[j]?).map (·.2)=some v):(ys.filterMap λ j=>(ae[j]?).map (·.2))[i]?=some v:=by
 have e:ys.filterMap (λ j=>(ae[j]?).map (·.2))=ys.map λ j=>(ae.toList.map (·.2)).getD j default:=by
  rw[<-NH];refine GX λ j a0=>?_;have a0:j<ae.size:=by simpa using ar.mem_iff.mp a0
  have qE:j<ae.toList.length:=by simpa using a0
  rw[nz a0,mr,d5,ez qE];simp
 rw[e,d5];have ah:ys.length=ae.size:=by have:=ar.length_eq;simpa using this
 have a0:ys[i]?=some ys[i]:=ez ⇑1;have hm:ys[i]<ae.size:=by have:=ar.mem_iff.mp (tw (by omega:i<ys.length));simpa using this
 rw[a0] at ba⊢;have aa:=nz hm;have ba:(ae[ys[i]]?).map (·.2)=some v:=ba;rw[aa] at ba;have ba:=eV ba;have Fs:ys[i]<ae.toList.length:=by simpa using hm
 show some ((ae.toList.map (·.2)).getD ys[i] default)=some v;rw[mr,d5,ez Fs];simp[<-ba]
inductive Gives(prog:Program)(w:World)(ae:Array (Int×Value))(B:Nat)(a I:Addr)(h:Heap):Prop|mk b2 P dC:(∀A:Around,A.handled=none->∃St,Walks prog w A I b2 [I] ae.size P St/\St 0 h)->(∀b∈b2,b<h.objs.size/\(b=a\/B<=b))->List.Perm dC (ae.toList.map (·.2))->(∀i v,i<ae.size->P i v->dC[i]?=some v)->Gives prog w ae B a I h
def adQ (az:s.heap.get? a=some (lb ae ep t))(T:Tab (!fW w) t ae.size)(hz:ae.size<=4096)
  (go:∀I G d,(∀b o,s.heap.get? b=some o->G.get? b=some o)->⇑s<=I->Gives prog w ae ⇑s a I G->Q (.ref I) {s with heap:=G,drawn:=d}):⇑5 (pyIter (.ref a)) Q E s:=by
 have ty:s.TypeIs (.ref a) "set":=⟨_,az,z⟩;have k3:=c2 az;refine wpAny_pyIter_slot ty F.slot_set_iter (nH F.slot_set_iter ty adE ?_ (F.args_set_iter_1 _));unfold Builtin.«frozenset.__iter__»;show wpAny _ _ (Builtin.Frozenset.sizeOf a >>= _) _ _ s;unfold Builtin.Frozenset.sizeOf;refine aL (aL (wG az z T.fits (bq ?_)));unfold setDrawn;refine aL (aL (tz az z T.fits (asks (bq ?_))));show wpAny _ _ (if (!fW w&&(!t.plain&&decide (ae.size>1)))=true then _ else _) _ _ s;have tail:∀(first:Value)(aq:Shared),(∀b o,s.heap.get? b=some o->aq.heap.get? b=some o)->(∃d,aq={s with heap:=aq.heap,drawn:=d})->⇑s<=⇑aq->
   (∀an,an=aq.heap.push (l9 first 0 a ae.size ep)->Gives prog w ae ⇑s a ⇑aq an)->
   wpAny (model prog w) A.in1 (setEpoch a >>= λ x=>newFields "set_iterator" [first,rawInt 0,Value.ref a,rawInt ae.size,rawInt x] >>= λ y=>ret y)
    (λ cY aV=>∃v,cY=Fin.done (Flow.ret v)/\∃SN r,aV.TypeIs v SN/\typeLookup (Value.type SN) (Str.ofString "__next__")=pure (some r)/\Q v aV) E aq:=by
  intro first aq cU ⟨d,m4⟩ e_ g
  refine aL (wpAny_setEpoch_of (cU _ _ az) z T.fits ?_);refine aL (tx (bq ⟨_,z,"set_iterator",_,⟨_,eU _ z,z⟩,oc.lookup,?_⟩));have:=go ⇑aq (aq.heap.push (l9 first 0 a ae.size ep)) d (λ b o q=>dq _ (cU b o q)) e_ (g _ z);rw[m4];exact this
 have ec:=er k3;have SO:∀b∈[⇑s,a],b<(s.heap.push (l9 (rawInt (0:Nat)) 0 a ae.size ep)).objs.size/\(b=a\/⇑s<=b):=λ b q=>by
  rw[g5];rcases bN.mp q with B|B
  ·rw[B];exact⟨nF _,.inr (bG _)⟩
  ·rw[dL.mp B];exact⟨mx k3,.inl z⟩
 cases Y:fW w with
 |true=>rw[ay ⇑2];refine aL (bq (tail (rawInt (0:Nat)) s (λ b o q=>q) ⟨s.drawn,by cases s;rfl⟩ (bG _) λ an bz=>?_));subst bz;refine⟨[⇑s,a],_,(pickOrder (w.params.setOrder a ep) ae).toList.map (·.2),λ A b3=>⟨_,w_text b3 Y T.fits ec,eU _ z,dq _ az⟩,SO,(GV _ ae).map _,λ i v aj ba=>?_⟩;rw[d5,tn];exact ba
 |false=>
  by_cases hd:t.plain=true\/ae.size<=1
  ·have e:(!false&&(!t.plain&&decide (ae.size>1)))=false:=by
    rcases hd with B|B;·rw[B];rfl
    ·rw[eA ⇑1];simp
   rw[e,ay ⇑0];refine aL (bq (tail (rawInt (0:Nat)) s (λ b o q=>q) ⟨s.drawn,by cases s;rfl⟩ (bG _) λ an bz=>?_));subst bz;refine⟨[⇑s,a],_,ae.toList.map (·.2),λ A b3=>⟨_,adL b3 Y T hd ec,0,adH T.rise,eU _ z,dq _ az⟩,SO,D8 _,λ i v aj ba=>?_⟩;rw[d5,tn];exact ba
  ·have e:(!false&&(!t.plain&&decide (ae.size>1)))=true:=by
    have D:t.plain=false:=by cases q:t.plain with
     |false=>rfl
     |true=>exact absurd (.inl q) hd
    have G:ae.size>1:=by
     by_cases q:ae.size>1;·exact q
     ·exact absurd (.inr ⇑1) hd
    rw[D,dO G];rfl
   rw[e,aA z];refine aL (SE _ _ s _ ⇑2 λ ys d ar=>?_);have ah:ys.length=ae.size:=by have:=ar.length_eq;simpa using this
   have jm:(4096:Nat)<=sizeLine:=by decide
   have bR:(ys.map λ(j:Nat)=>rawInt j).length<=sizeLine:=by rw[be,ah];exact cK hz jm
   have cq:List.Perm (ys.filterMap λ j=>(ae[j]?).map (·.2)) (ae.toList.map (·.2)):=by refine(ar.filterMap _).trans (List.Perm.of_eq ?_);refine DS λ i=>?_;exact adO ae i
   refine aL (wpAny_newTuple (tail (.ref ⇑s) {s with heap:=s.heap.push {cls:=.type "tuple",data:=.seq (ys.map λ(j:Nat)=>rawInt j).toArray},drawn:=d} (λ b o q=>dq _ q) ⟨d,z⟩ (by rw[g5];exact mz _) λ an bz=>?_) bR);subst bz;have BB:=g5 s.heap {cls:=.type "tuple",data:=.seq (ys.map λ(j:Nat)=>rawInt j).toArray};have ca:a≠(s.heap.push {cls:=.type "tuple",data:=.seq (ys.map λ(j:Nat)=>rawInt j).toArray}).objs.size:=by rw[BB];exact er (mx k3)
   have cp:⇑s≠(s.heap.push {cls:=.type "tuple",data:=.seq (ys.map λ(j:Nat)=>rawInt j).toArray}).objs.size:=by rw[BB];exact er (nF _)
   refine⟨[_,a,⇑s],_,ys.filterMap λ j=>(ae[j]?).map (·.2),λ A b3=>⟨_,adM b3 T.fits ar ca cp,eU _ z,dq _ (dq _ az),dq _ (eU _ z)⟩,λ b q=>?_,cq,λ i v aj ba=>?_⟩
   ·rw[g5];rcases bN.mp q with B|B
    ·rw[B];exact⟨nF _,.inr (by rw[BB];exact mz _)⟩
    ·rw[BB];rcases bN.mp B with B|B
     ·rw[B];exact⟨mx (mx k3),.inl z⟩
     ·rw[dL.mp B];exact⟨mx (nF _),.inr (bG _)⟩
   ·exact adP ar i v aj ba
end
open PySem PySem.W PyProof.Rows
section
variable{prog:Program}{w:World}{A:Around}{E:Value->Shared->Prop}{s:Shared}{a:Addr}{ae:Array (Int×Value)}{ep:Nat}{t:SetTable}
def adR (aM:s.TypeIs (.ref a) "set")(h:Q false s):⇑5 (Builtin.List.listLengthHint (.ref a)) Q E s:=by
 unfold Builtin.List.listLengthHint;refine aL (wpAny_specialOf aM PySem.F.slot_set_len.lookup ?_);generalize SP:("set.__len__":String)=adS
 wp_delta
 rw[show splitId adS=some ("set","__len__") from by subst SP;decide+kernel];subst SP;refine aL (zN (T:="set") (b:=true) aM (by rw[Ed];kernel_rfl) ?_);refine wP (λ sd=>absurd sd ⇑0) (λ _=>?_);refine wP (λ _=>?_) (λ sd=>absurd (by decide+kernel) sd);refine aL (zV aM ?_);exact bq h
def adT (az:s.heap.get? a=some (lb ae ep t))(T:Tab (!fW w) t ae.size)(hz:ae.size<=4096)(b3:A.handled=none)(S)(SQ:S≠a)(res)(c₀)(a8:s.heap.get? S=some {cls:=.type "list",data:=.seq #[] c₀})
  (kn:∀h' tk d j2 dw,(∀b o,b≠S->s.heap.get? b=some o->h'.get? b=some o)->h'.get? S=some {cls:=.type "list",dict:=none,data:=.seq j2 dw,slots:= #[]}->List.Perm j2.toList (ae.toList.map (·.2))->R (.ok (.ret res)) {s with heap:=h',toks:=tk,drawn:=d}):
  wpAny (model prog w) A.in1 (Builtin.List.listExtendWith (.ref S) (.ref a) res)
   (λ cY aV=>match cY with|.done f=>R (.ok f) aV|.again dw=>dw.quiet=true/\codeAny (model prog w) A dw R aV) (λ e aV=>R (.error e) aV) s:=by
 have ty:s.TypeIs (.ref a) "set":=⟨_,az,z⟩;have By:=c2 a8;unfold Builtin.List.listExtendWith;refine aL (zV (T:="set") ty ?_);have D:Builtin.List.listSameRef (.ref S) (.ref a)=false:=by simp[Builtin.List.listSameRef,SQ]
 have G:(Value.type "set"==Value.type "list")=false:=by decide
 have an:(Value.type "set"==Value.type "tuple")=false:=by decide
 simp only[D,G,an,zQ,il,ip];refine aL (adQ az T hz λ I G d cU adU ⟨b2,_,dC,nf,qj,cq,dH⟩=>?_);obtain⟨St,W,st⟩:=nf A.in1 b3;have SR:S∉b2:=λ q=>by
  rcases (qj S q).2 with B|B;·exact SQ B
  ·exact absurd By (wU.mpr B)
 have aB:ae.size<=sizeLine:=cK hz ⇑0;have key:∀(h:Heap)(BC tk:Nat),St 0 h->(∀b o,b≠S->s.heap.get? b=some o->h.get? b=some o)->
   h.get? S=some {cls:=.type "list",data:=.seq #[] BC}->codeAny (model prog w) A (.builtin "list.extend.loop" ⟨[.ref S,.ref I,res],[]⟩) R {s with heap:=h,toks:=tk,drawn:=d}:=by
  intro h BC tk mG ax sq;refine codeAny_extend_loopS W.toS aB S SR res ae.size 0 _ #[] BC z (cQ _) mG sq (ItemsOf.nil _) λ aV j2 dw hm sr j1=>?_;rw[Moved.eq_with hm];refine kn aV.heap aV.toks d j2 dw (λ b o Y e=>hm.heap b o (λ mS=>?_) (ax b o Y e)) sr ?_
  ·rcases bN.mp mS with bW|mS
   ·exact Y bW
   ·exact absurd (c2 e) (by rw[dL.mp mS];exact wU.mpr adU)
  ·have e:j2.toList=dC:=by
    refine DS λ i=>?_;have ah:dC.length=ae.size:=by have:=cq.length_eq;simpa using this
    by_cases aj:i<ae.size
    ·have lc:i<j2.size:=by rw[j1.1];exact aj
     rw[tn,nz lc];exact(dH i _ aj (j1.2 i _ (nz lc))).symm
    ·rw[wy (by rw[nC,j1.1];omega),wy ⇑1]
   rw[e];exact cq
 have adV:Shared.TypeIs {s with heap:=G,drawn:=d} (.ref a) "set":=⟨_,cU _ _ az,z⟩;have sq:=cU _ _ a8;refine aL (hs (adR adV ?_));refine wP (λ _=>?_) (λ _=>bq ⟨lz Nv _,key _ c₀ _ st (λ b o _ e=>cU b o e) sq⟩);refine aL (lA ?_);refine aL ?_;refine aL (wO sq z ?_);have SS:=rk (Obj.mapSeq (·.push Value.none)) sq z;refine wO (hz:=by seq_fits) SS z ?_;have adW:=rk (Obj.mapSeq (·.pop)) SS z;refine bq ⟨lz Nv _,key _ _ _ ?_ (λ b o Y e=>?_) adW⟩
 ·refine W.frame 0 _ _ st λ b Y o e=>?_;have SU:b≠S:=λ h=>SR (h▸Y);exact(ms _ _ (i7 SU)).trans ((ms _ _ (i7 SU)).trans e)
 ·exact(ms _ _ (i7 Y)).trans ((ms _ _ (i7 Y)).trans (cU b o e))
def adX (az:s.heap.get? a=some (lb ae ep t))(T:Tab (!fW w) t ae.size)(hz:ae.size<=4096)(b3:A.handled=none)(h:∀h' tk d aY,(∀b o,s.heap.get? b=some o->h'.get? b=some o)->List.Perm aY (ae.toList.map (·.2))->R aY {s with heap:=h',toks:=tk,drawn:=d}):⇑5 (collect (.ref a)) R E s:=by
 have k3:=c2 az;unfold collect;refine aL (wpAny_runValue (ly entry_proto_collect' ?_));rw[nB PySem.F.plain_proto_collect _];refine aL (tx ?_);refine bq ⟨lz NC _,ly entry_list_iadd' ?_⟩;rw[nB NC _];have sq:(s.heap.push {cls:=.type "list",data:=.seq ([]:List Value).toArray}).get? ⇑s=some {cls:=.type "list",data:=.seq #[]}:=eU _ z;have key:=adT (A:=A) (w:=w) (prog:=prog) (s:={s with heap:=s.heap.push {cls:=.type "list",data:=.seq ([]:List Value).toArray}})
  (R:=λ(q:Result)(aV:Shared)=>∃(h':Heap)(tk:Nat)(d:Drawn)(j2:Array Value)(dw:Nat),q=.ok (.ret (.ref ⇑s))/\aV={s with heap:=h',toks:=tk,drawn:=d}/\
   (∀b o,s.heap.get? b=some o->h'.get? b=some o)/\h'.get? ⇑s=some {cls:=.type "list",dict:=none,data:=.seq j2 dw,slots:= #[]}/\List.Perm j2.toList (ae.toList.map (·.2)))
  (dq _ az) T hz b3 ⇑s (p7 k3) (.ref ⇑s) 0 sq
  (λ h' tk d j2 dw ax sr j1=>⟨h',tk,d,j2,dw,z,z,λ b o e=>ax b o (er (c2 e)) (dq _ e),sr,j1⟩)
 refine hu key (λ cY aV x=>?_) λ e aV x=>?_
 ·cases cY with
  |done f=>obtain⟨h',tk,d,j2,dw,e,rfl,ax,sr,j1⟩:=x;cases e;refine aL (zX sr ?_);exact bq (h h' tk d j2.toList ax j1)
  |again BC=>refine⟨x.1,oV x.2 λ q _ y=>?_⟩;obtain⟨h',tk,d,j2,dw,rfl,rfl,ax,sr,j1⟩:=y;refine aL (zX sr ?_);exact bq (h h' tk d j2.toList ax j1)
 ·obtain⟨_,_,_,_,_,bW,_⟩:=x;cases bW
def SV (az:s.heap.get? a=some (lb ae ep t))(T:Tab (!fW w) t ae.size)(hz:ae.size<=4096)(b3:A.handled=none)
  (h:∀(h':Heap)(tk:Nat)(d:Drawn)(vs:List Value),(∀b o,s.heap.get? b=some o->h'.get? b=some o)->List.Perm vs (ae.toList.map (·.2))->
   wpAny (model prog w) A.in1 (call (.builtin "list.sort") [.ref h'.objs.size]) (λ _ aV=>Q (.ref h'.objs.size) aV) E {s with heap:=h'.push {cls:=.type "list",data:=.seq vs.toArray},toks:=tk,drawn:=d}):
  ⇑5 (call (.builtin "sorted") [.ref a]) Q E s:=by
 refine PySem.Calls.call_function_entry kind_sorted plain_sorted entry_sorted (args_sorted1 _) ?_;unfold Builtin.«sorted»;refine aL (m:=checkCount "sorted" 1 1 _) (bq ?_);refine aL (adX (A:=A.in1) az T hz b3 λ h' tk d aY ax j1=>?_);have ah:aY.length=ae.size:=by have:=j1.length_eq;simpa using this
 refine aL (wpAny_newList ?_ (by rw[ah];exact cK hz ⇑0));refine aL (hs (hu (h h' tk d aY ax j1) (λ _ aV x=>?_) λ _ _ e=>e));exact bq ⟨_,z,x⟩
end
end fV
end
section
namespace fV
open PySem PyProof.Rows ef
def adY {a b:Str}(h:a.cps.toList=b.cps.toList):a=b:=by cases a;cases b;simp only[Oe] at h;rw[h]
theorem SW:∀(l:List Str)(p:Str),risingS p l=true->∀x∈l,p.cps.toList<=x.cps.toList
 |[],_,_,_,h=>nomatch h
 |y::l,p,h,x,aa=>by
  have h':(!Spec.ltCps y.cps.toList p.cps.toList&&risingS y l)=true:=h;rw[dF,ltCps_eq] at h';have D:p.cps.toList<=y.cps.toList:=by have:=h'.1;intro q;rw[dO q] at this;exact nomatch this
  rcases bN.mp aa with e|e;·rw[e];exact D
  ·exact List.le_trans D (SW l y h'.2 x e)
theorem SX:∀(l:List Str),sortedS l=true->l.Pairwise λ u v=>u.cps.toList<=v.cps.toList
 |[],_=>.nil
 |p::l,h=>by
  refine .cons (SW l p h) (SX l ?_);cases l with
  |nil=>rfl
  |cons y l=>have h':(!Spec.ltCps y.cps.toList p.cps.toList&&risingS y l)=true:=h;rw[dF] at h';exact h'.2
def adZ (h:sortedS l=true)(aB:l.Nodup):l.Pairwise λ u v=>u.cps.toList<v.cps.toList:=by
 refine((SX l h).and aB).imp λ {a b}⟨D,G⟩=>?_;by_cases q:a.cps.toList<b.cps.toList;·exact q
 ·exact absurd (adY (List.le_antisymm D q)) G
def ad0 {l:List Int}(h:l.Pairwise (· <= ·))(aB:l.Nodup):l.Pairwise (· < ·):=(h.and aB).imp λ {_ _}⟨_,_⟩=>by omega
theorem ints_map:∀(vs:List Value),(∀v,v∈vs->∃x t,v=.int x t)->IntsAre vs (vs.map numOf)
 |[],_=>.nil
 |v::vs,h=>by obtain⟨x,t,rfl⟩:=h v (cn ..);exact .cons x t (ints_map vs λ u a1=>h u (cu _ a1))
section
variable{prog:Program}{w:World}
def SY (X:iY (dT prog w) h a S ae ep t)(ar:List.Perm vs (ae.toList.map (·.2))):
  (vs.Pairwise λ u v=>∀k,gR k u=true->gR k v=true->False)/\(∀v∈vs,∃k,gR k v=true/\S k=true)/\∀k,S k=true->∃v∈vs,gR k v=true:=by
 refine⟨?_,λ v ba=>?_,λ k ax=>?_⟩
 ·refine(NG (λ {_ _} q k D G=>q k G D) ar).mpr ?_;exact p0.mpr X.sep
 ·obtain⟨e,a3,rfl⟩:=cd.mp (ar.mem_iff.mp ba);obtain⟨⟨k,ax,_⟩,_⟩:=X.hE e a3;exact⟨k,ax,(X.mem k).mpr ⟨e,a3,ax⟩⟩
 ·obtain⟨e,a3,q⟩:=(X.mem k).mp ax;exact⟨e.2,ar.mem_iff.mpr (cd.mpr ⟨e,a3,z⟩),q⟩
def ad1 (X:iY (dT prog w) h a S ae ep t)(ar:List.Perm vs (ae.toList.map (·.2))){ns:List Int}
  (a8:∀q,S q=true↔∃B∈ns,q=Sum.inl B):∃pt:List Int,IntsAre vs pt/\pt.Nodup/\∀B,B∈pt↔B∈ns:=by
 obtain⟨D,G,an⟩:=SY X ar;have aU:∀v∈vs,∃B t,v=.int B t/\B∈ns:=λ v ba=>by
  obtain⟨k,ap,ao⟩:=G v ba;obtain⟨B,hz,rfl⟩:=(a8 k).mp ao;rcases kd ap with⟨i,u,e,rfl⟩|⟨i,u,e,_⟩
  ·cases e;exact⟨_,_,z,hz⟩
  ·exact nomatch e
 have bY:∀B t,gR (Sum.inl B) (.int B t)=true:=λ B t=>by simp[gR,Value.isInt]
 refine⟨vs.map numOf,ints_map vs λ v ba=>let ⟨B,t,e,_⟩:=aU v ba;⟨B,t,e⟩,?_,λ B=>⟨λ hz=>?_,λ hz=>?_⟩⟩
 ·refine p0.mpr (zy (λ {u v} a1 ba q e=>?_) D);obtain⟨x,fR,rfl,_⟩:=aU u a1;obtain⟨_,_,rfl,_⟩:=aU v ba;have e:=e;subst e;exact q (Sum.inl x) (bY _ _) (bY _ _)
 ·obtain⟨v,ba,rfl⟩:=cd.mp hz;obtain⟨x,fR,rfl,aa⟩:=aU v ba;exact aa
 ·obtain⟨v,ba,e⟩:=an (Sum.inl B) ((a8 _).mpr ⟨B,hz,z⟩);rcases kd e with⟨i,u,ap,rfl⟩|⟨i,u,ap,_⟩
  ·cases ap;exact cd.mpr ⟨_,ba,z⟩
  ·exact nomatch ap
def ad2 (X:iY (dT prog w) h a S ae ep t)(ar:List.Perm vs (ae.toList.map (·.2))){ns:List Str}
  (a8:∀q,S q=true↔∃B∈ns,q=Sum.inr B):∃pt:List Str,StrsAre vs pt/\pt.Nodup/\∀B,B∈pt↔B∈ns:=by
 obtain⟨D,G,an⟩:=SY X ar;have aU:∀v∈vs,∃B t,v=.str B t/\B∈ns:=λ v ba=>by
  obtain⟨k,ap,ao⟩:=G v ba;obtain⟨B,hz,rfl⟩:=(a8 k).mp ao;rcases kd ap with⟨i,u,e,_⟩|⟨i,u,e,rfl⟩
  ·exact nomatch e
  ·cases e;exact⟨_,_,z,hz⟩
 have bY:∀B t,gR (Sum.inr B) (.str B t)=true:=λ B t=>by simp[gR,Value.isStrOf]
 refine⟨vs.map strOf,strsAre_map vs λ v ba=>let ⟨B,t,e,_⟩:=aU v ba;⟨B,t,e⟩,?_,λ B=>⟨λ hz=>?_,λ hz=>?_⟩⟩
 ·refine p0.mpr (zy (λ {u v} a1 ba q e=>?_) D);obtain⟨x,fR,rfl,_⟩:=aU u a1;obtain⟨_,_,rfl,_⟩:=aU v ba;have e:=e;subst e;exact q (Sum.inr x) (bY _ _) (bY _ _)
 ·obtain⟨v,ba,rfl⟩:=cd.mp hz;obtain⟨x,fR,rfl,aa⟩:=aU v ba;exact aa
 ·obtain⟨v,ba,e⟩:=an (Sum.inr B) ((a8 _).mpr ⟨B,hz,z⟩);rcases kd e with⟨i,u,ap,_⟩|⟨i,u,ap,rfl⟩
  ·exact nomatch ap
  ·cases ap;exact cd.mpr ⟨_,ba,z⟩
theorem S0:∀{aR:List Value}{ns:List Str},StrsAre aR ns->∀(i:Nat)(v:Value),aR[i]?=some v->∃t,v=.str (ns.getD i ⟨#[]⟩) t
 |_,_,.nil,_,_,h=>nomatch h
 |_,_,.cons x t r,0,v,h=>by cases h;exact⟨t,z⟩
 |_,_,.cons x t r,i+1,v,h=>S0 r i v h
end
end fV
namespace ef
open PySem PySem.Spec PyProof.Rows
section
variable{X:bE}{e:Expr}{cc:TE}{bx:eX}{ac:List (Addr×Obj)}{L:St}{H:aP}{s:Shared}{h':Heap}
def Inv.S1 (I:Inv X ac L H s)(k:∀b u,s.heap.get? b=some u->h'.get? b=some u)(ar:⇑s<=a)(new:e8 X.prog X.w (upd H a o) h' a o):
  Inv X ac L (upd H a o) {s with heap:=h',toks:=t',drawn:=d'}:=by
 have u:gp [] [] H (upd H a o) s.heap h':=gp.laid k ar (I.bi.fresh ar);exact I.step (g':=s.gens) (d':=d') (t':=t') (ch:=[]) (λ _ B=>nomatch B) (λ b o _ _ _ e _=>k b o e) (λ b o _ _ _ e _=>⟨o.slots,k b o e⟩) (λ b o _ e n=>u.free b o e n ⇑2) (λ b o _ e=>⟨o,k b o e⟩) u.oW u.nK u.oX (λ _ ⟨o,ae,ep,aT,r⟩=>⟨o,ae,ep,k _ o aT,r⟩) (I.bi.laid k ar new) I.bare
def ad3:bootBuiltins "sorted"=some (.builtin "sorted"):=by decide+kernel
def ad4:bootBuiltins "set"=some (.type "set"):=by decide+kernel
inductive S3j(K:Frag)(Q:d7)(x:V)(H1:aP):Prop|mk a:x=.ref a->((∃ns:List Int,aG K H1 a (ns.map V.int)/\ns.length<4095/\∀(kz:List Int)(p:Addr),kz.Pairwise (· < ·)->(∀B,B∈kz↔B∈ns)->H1 p=none->Q (.ref p) (upd H1 p (.lst (kz.map V.int))))\/ ∃xs:List Str,aG K H1 a (xs.map V.str)/\xs.length<4095/\∀(ys:List Str)(p:Addr),ys.Pairwise (λ u v=>u.cps.toList<v.cps.toList)->(∀B,B∈ys↔B∈xs)->H1 p=none->Q (.ref p) (upd H1 p (.lst (ys.map V.str))))->S3j K Q x H1
def S3 (K:Frag)(cc:TE):TE:=λ L H Q=>cc L H (S3j K Q)
def GY (ak:X.calm=true)(D:X.am "sorted"=none)(G:X.am "set"=none)(a3:a9 X e cc)(a':gr X "sorted":=by rfl)(a5:gr X "set":=by rfl)(au:starEach [e] X.env=[(false,eval e X.env)]:=by rfl):
  a9 X (.Call (.Name "sorted" dR) [.Call (.Name "set" fP) [e] [] bb] [] q1) (S3 X.K cc):=by
 intro ac s L H _ I h;refine oO (rH I a' D ad3 (Nq ?_ rfl z));refine nE ?_;refine oO (rH I a5 G ad4 (DA (e:=e) (rest:=[]) ?_ au z));rw[au];refine nE (bC (a3 s L H _ I h) λ u _ ⟨_,H1,a4,b0,a,ex,q1⟩=>p2 ?_);subst ex;obtain rfl:u=Value.ref a:=b0;have b3:=a4.ok.hd ak;rcases q1 with⟨ns,aK,ah,go⟩|⟨xs,aK,ah,go⟩
 ·obtain⟨aR,cv,aj,_⟩:=a4.list aK;have bR:aR.length=ns.length:=by rw[<-cv.length,be]
  refine fV.SA (knd:=dT X.prog X.w) (ks:=λ i=>Sum.inl (ns.getD i 0)) b3 aj.isList (λ i v ba=>?_) (by rw[fk,bR];show _<4096;omega) λ G cU S ae ep t k lt le GZ=>?_
  ·obtain⟨t,rfl⟩:=fV.ints_get cv.ints i v ↥ba;exact⟨by rw[Ou];simp[gR,Value.isInt],z⟩
  refine p2 ?_;refine fV.SV le.at_ le.tab (nI le.jR) b3 λ an tk d vs f5 ar=>?_;obtain⟨pt,fa,dm,G0⟩:=fV.ad1 le ar (ns:=ns) λ q=>by
   rw[GZ q];constructor
   ·rintro⟨j,a0,rfl⟩;have a0:j<ns.length:=by simpa[bR] using a0
    exact⟨ns[j],tw a0,by rw[mr,ez a0];rfl⟩
   ·rintro⟨B,hz,rfl⟩;obtain⟨j,a0,e⟩:=wC hz;exact⟨j,by simpa[bR] using a0,by rw[mr,ez a0,e];rfl⟩
  have uQ:vs.length<=sizeLine:=by
   have ap:vs.length=ae.size:=by have:=ar.length_eq;simpa using this
   rw[ap];exact cK (nI le.jR) ⇑0
  have su:(an.push {cls:=.type "list",data:=.seq vs.toArray}).get? an.objs.size=some (seqObj "list" vs.toArray 0):=eU _ z;refine nH slot_list_sort ⟨_,su,z⟩ entry_list_sort (list_sort_treeAny su fa uQ λ out kz xH o' G1=>⟨.none,z,?_⟩) (args_list_sort _);obtain⟨rE,sk⟩:=sortedHeap_at (vs:=vs) (out:=out) su;have yd:=nI (hp (c2 (f5 _ _ le.at_)) (bG _));refine⟨.ref an.objs.size,upd H1 an.objs.size (.lst (kz.map V.int)),a4.S1 (λ b u a1=>?_) yd (show e8 X.prog X.w _ _ _ (.lst _) from⟨by rw[be,o'.length_eq,<-fa.length];exact uQ,out.toList,rE,E1 xH,sk⟩),z,go kz _ (fV.ad0 G1 (o'.nodup_iff.mpr dm)) (λ B=>o'.mem_iff.trans (G0 B)) (a4.bi.fresh yd)⟩;have ye:=f5 _ _ (k b u a1);have od:=c2 ye;rw[sortedHeap_old (er od) (by rw[g5];exact mx od)];exact dq _ ye
 ·obtain⟨aR,cv,aj,_⟩:=a4.list aK;have bR:aR.length=xs.length:=by rw[<-cv.length,be]
  refine fV.SA (knd:=dT X.prog X.w) (ks:=λ i=>Sum.inr (xs.getD i ⟨#[]⟩)) b3 aj.isList (λ i v ba=>?_) (by rw[fk,bR];show _<4096;omega) λ G cU S ae ep t k lt le GZ=>?_
  ·obtain⟨t,rfl⟩:=fV.S0 cv.strs i v ↥ba;exact⟨by rw[Ou];simp[gR,Value.isStrOf],z⟩
  refine p2 ?_;refine fV.SV le.at_ le.tab (nI le.jR) b3 λ an tk d vs f5 ar=>?_;obtain⟨pt,fa,dm,G0⟩:=fV.ad2 le ar (ns:=xs) λ q=>by
   rw[GZ q];constructor
   ·rintro⟨j,a0,rfl⟩;have a0:j<xs.length:=by simpa[bR] using a0
    exact⟨xs[j],tw a0,by rw[mr,ez a0];rfl⟩
   ·rintro⟨B,hz,rfl⟩;obtain⟨j,a0,e⟩:=wC hz;exact⟨j,by simpa[bR] using a0,by rw[mr,ez a0,e];rfl⟩
  have uQ:vs.length<=sizeLine:=by
   have ap:vs.length=ae.size:=by have:=ar.length_eq;simpa using this
   rw[ap];exact cK (nI le.jR) ⇑0
  have su:(an.push {cls:=.type "list",data:=.seq vs.toArray}).get? an.objs.size=some (seqObj "list" vs.toArray 0):=eU _ z;refine nH slot_list_sort ⟨_,su,z⟩ entry_list_sort (list_sort_treeKAny strKind_oneLt su fa.keysOf (λ _ _ rest e=>keyKind_strs (by rw[<-e];exact fa)) uQ λ it dR fP=>⟨.none,z,?_⟩) (args_list_sort _);obtain⟨ys,xH,o',G1⟩:=sorted_out_str fa dR fP;obtain⟨rE,sk⟩:=sortedHeap_at (vs:=vs) (out:=(arrOf it).map (·.2)) su;have yd:=nI (hp (c2 (f5 _ _ le.at_)) (bG _));refine⟨.ref an.objs.size,upd H1 an.objs.size (.lst (ys.map V.str)),a4.S1 (λ b u a1=>?_) yd (show e8 X.prog X.w _ _ _ (.lst _) from⟨by rw[be,o'.length_eq,<-fa.length];exact uQ,((arrOf it).map (·.2)).toList,rE,Pu xH,by rw[Array.toArray_toList];exact sk⟩),z,go ys _ (fV.adZ G1 (o'.nodup_iff.mpr dm)) (λ B=>o'.mem_iff.trans (G0 B)) (a4.bi.fresh yd)⟩;have ye:=f5 _ _ (k b u a1);have od:=c2 ye;rw[sortedHeap_old (er od) (by rw[g5];exact mx od)];exact dq _ ye
end
end ef
end
section
namespace WP
open Vbtaae (lessB Bytes Sen Lines numbered ascii dec spaced split isName isDigit number RESERVED readLine shown shownAll isText inr bytes step)
open PySem PySem.Spec PyProof.Rows ef
def top (i:Nat):Stmt:=PySem.Challenge.pw_worldtold_s01_answers.main.body.getD i (.Pass ⟨0,0,0,0⟩)
abbrev sv:List Str:=["self","number"]
abbrev qF:List Str:=["self","form","name"]
abbrev BD:List Str:=["self","form","name","other"]
abbrev uT:List Str:=["told","form","name"]
abbrev G2:List Str:=["told","form","name","goal"]
abbrev ng:List Str:=["told","kind"]
abbrev G3:List Str:=["told","form","kinds","word"]
abbrev BE:List Str:=["told","letting","kind","word"]
abbrev nh:List Str:=["told","thing"]
abbrev oe:List Str:=["told","line"]
abbrev ga:List Str:=["lines"]
abbrev BF:List Str:=["self","said","how","source"]
abbrev BG:List Str:=["told","how","number"]
abbrev G4:List Str:=["told","thing","kinds","letting","word"]
abbrev BH:List Str:=["told","kind","found"]
abbrev G5:List Str:=["told","thing","letting","word","found"]
abbrev BI:List Str:=["self","form","about","other","said"]
abbrev l_:List Str:=["row"]
abbrev BJ:List Str:=["slot","word"]
abbrev uU:List Str:=["sentence"]
abbrev G6:List Str:=["told","thing","kind"]
abbrev G7:List Str:=["told","played","line"]
abbrev G8:List Str:=["told","letting","kinds"]
abbrev G9:List Str:=["lines","numbers"]
abbrev G_:List Str:=["lines","rows","longest"]
abbrev BK:List Str:=["lines","row","refusal"]
abbrev j3:List Str:=["lines","row"]
abbrev G':List Str:=["lines","row","others"]
abbrev Ha:List Str:=["lines","row","word","letting"]
abbrev Hb:List Str:=["lines","row","word_row","letting"]
abbrev sx:List Str:=["self","numbers"]
abbrev eS:List Str:=["self"]
abbrev pu:List Str:=["self","row"]
abbrev Hc:List Str:=["self","one","two"]
abbrev qG:List Str:=["self","thing"]
abbrev qH:List Str:=["self","kind_name"]
abbrev BL:List Str:=["self","thing","quality"]
abbrev BM:List Str:=["self","thing","number_name"]
abbrev BN:List Str:=["desk","call","row"]
abbrev BO:List Str:=["desk","call"]
abbrev Hd:List Str:=["desk","call","tape"]
abbrev Sc (N ps:List Str)(st:Stmt):Prop:=t3 N ps (h1 st)
def bV (a:dz.kind=.function:=by rfl)(b:dz.isCoroutine=false:=by rfl)(c:dz.isGenerator=false:=by rfl)(d:N.Nodup:=by decide+kernel)(e:N.take P.length=P:=by rfl)
  (f:∀x∈P,dz.names.lookup x=some .local\/dz.names.lookup x=some .cell:=by decide+kernel) (g:∀y∈dz.names,y.2≠.free:=by decide+kernel):t3 N P dz:=⟨a,b,c,d,e,f,g⟩
abbrev He:=inClass (top 11) 0
def S4:Sc ["self","lines","line"] ["self","lines"] He:=bV
abbrev BP:=inClass (top 11) 1
def S5:Sc ["self","line","number"] ["self","line"] BP:=bV
abbrev Hf:=inClass (top 11) 2
def ad5:Sc sv sv Hf:=bV
abbrev Hg:=inClass (top 11) 3
def ad6:Sc qF qF Hg:=bV
abbrev Hh:=inClass (top 11) 4
def ad7:Sc qF qF Hh:=bV
abbrev Hi:=inClass (top 11) 5
def ad8:Sc BD BD Hi:=bV
abbrev Hj:=top 12
def uV:Sc ["told","form","name","steps","seen","number"] uT Hj:=bV
abbrev Hk:=top 13
def Hl:Sc ["told","form","name","goal","steps","number"] G2 Hk:=bV
abbrev Hm:=top 14
def Hn:Sc ["told","form","name","number"] uT Hm:=bV
abbrev Ho:=top 15
def ad9:Sc ng ng Ho:=bV
abbrev Hp:=top 16
def Hq:Sc ["told","form","kinds","word","kind","number"] G3 Hp:=bV
abbrev Hr:=top 17
def Hs:Sc ["told","forms","line"] ["told","forms"] Hr:=bV
abbrev Ht:=top 20
def aea:Sc ng ng Ht:=bV
abbrev Hu:=top 21
def aeb:Sc BE BE Hu:=bV
abbrev Hv:=top 22
def aec:Sc nh nh Hv:=bV
abbrev Hw:=top 23
def aed:Sc nh nh Hw:=bV
abbrev Hx:=top 24
def S6:Sc ["told","line","letting"] oe Hx:=bV
abbrev Hy:=top 25
def BQ:Sc ["lines","told","number","line"] ga Hy:=bV
abbrev Hz:=inClass (top 31) 0
def aee:Sc BF BF Hz:=bV
abbrev HA:=top 32
def aef:Sc BG BG HA:=bV
abbrev HB:=top 33
def BR:Sc ["told","thing","kinds","letting","word","number","form","how"] G4 HB:=bV
abbrev HC:=top 34
def aeg:Sc BH BH HC:=bV
abbrev HD:=top 35
def HE:Sc ["told","thing","letting","word","found","kind","numbers"] G5 HD:=bV
abbrev BS:=inClass (top 43) 0
def aeh:Sc BI BI BS:=bV
abbrev HF:=top 44
def uW:Sc ["row","signs","sign","byte"] l_ HF:=bV
abbrev HG:=top 45
def HH:Sc ["text","sign"] ["text"] HG:=bV
abbrev HI:=top 46
def HJ:Sc ["word","sign"] ["word"] HI:=bV
abbrev HK:=top 47
def S7:Sc ["word","digits"] ["word"] HK:=bV
abbrev HL:=top 48
def aei:Sc BJ BJ HL:=bV
abbrev HM:=top 49
def BU:Sc ["shape","words","slots","filled","slot","word"] ["shape","words"] HM:=bV
abbrev HN:=top 50
def uX:Sc ["row","text","words","form","answer","shape","filled","said"] l_ HN:=bV
abbrev HO:=top 51
def HP:Sc ["sentence","fitting","form","answer","shape"] uU HO:=bV
abbrev HQ:=top 52
def BV:Sc ["sentence","filled","words","slot"] uU HQ:=bV
abbrev HR:=top 54
def HS:Sc ["names","seen","name"] ["names"] HR:=bV
abbrev HT:=top 55
def yf:Sc ["told","thing","kind","numbers","upper","words","number"] G6 HT:=bV
abbrev HU:=top 56
def S8:Sc ["told","words","number"] ["told","words"] HU:=bV
abbrev HV:=top 57
def kB:Sc ["told","things","qualities","thing","home","kind","words","quality","number","steps","line"] ["told"] HV:=bV
abbrev HW:=top 58
def aej:Sc ga ga HW:=bV
abbrev HX:=top 59
def uY:Sc ["lines","whole","torn","middle"] ga HX:=bV
abbrev HY:=top 66
def aek:Sc ["line"] ["line"] HY:=bV
abbrev HZ:=top 67
def S9:Sc ["line","parts"] ["line"] HZ:=bV
abbrev H2:=top 68
def BW:Sc ["played","line","numbers","name","part","earlier"] ["played","line"] H2:=bV
abbrev H3:=top 69
def yg:Sc ["told","line","number","agrees"] oe H3:=bV
abbrev H4:=top 70
def ael:Sc oe oe H4:=bV
abbrev H5:=top 71
def uZ:Sc ["told","played","line","number","way","earlier","ring"] G7 H5:=bV
abbrev H6:=top 72
def u0:Sc ["lines","told","played","line","clash","name","part"] ga H6:=bV
abbrev H7:=top 73
def BX:Sc ["lines","clash","ahead","tear"] ga H7:=bV
abbrev H8:=top 75
def aem:Sc ga ga H8:=bV
abbrev H9:=top 76
def yh:Sc ["told","letting","kinds","words","kind","number"] G8 H9:=bV
abbrev H_:=top 77
def sy:Sc ["told","kind","kinds","lines","letting","word"] ng H_:=bV
abbrev H':=top 78
def u1:Sc ["told","thing","kinds","lines","quality","name","number"] nh H':=bV
abbrev Ia:=top 79
def yi:Sc ["lines","told","shown","kind","thing"] ga Ia:=bV
abbrev Ib:=top 92
def Ic:Sc ["row","longest","byte"] ["row","longest"] Ib:=bV
abbrev Ie:=top 93
def Ig:Sc ["numbers","number"] ["numbers"] Ie:=bV
abbrev Ih:=top 94
def Ii:Sc ["lines","numbers","number"] G9 Ih:=bV
abbrev Ij:=top 95
def Ik:Sc ["lines","rows","longest","row"] G_ Ij:=bV
abbrev Il:=top 96
def S_:Sc BK j3 Il:=bV
abbrev Im:=top 97
def S':Sc ["lines","row","others","refusal"] G' Im:=bV
abbrev Io:=top 98
def Ip:Sc ["lines","row","word","letting","refusal","told"] Ha Io:=bV
abbrev Iq:=top 100
def Ir:Sc ["names","row","name"] ["names"] Iq:=bV
abbrev It:=top 101
def Ta:Sc BK j3 It:=bV
abbrev Iu:=top 102
def Tb:Sc BK j3 Iu:=bV
abbrev Iv:=top 103
def u2:Sc ["lines","row","word_row","letting","refusal","told","thing","word","found"] Hb Iv:=bV
abbrev Iw:=top 104
def Tc:Sc BK j3 Iw:=bV
abbrev Ix:=top 105
def sz:Sc ["lines","row","refusal","told","kind","things","thing"] j3 Ix:=bV
abbrev Iy:=top 108
def Iz:Sc ["row","parts","byte"] l_ Iy:=bV
abbrev IA:=top 109
def BY:Sc ["row","parts","lines","part"] l_ IA:=bV
abbrev IB:=top 110
def IC:Sc ["lines","row","line"] ga IB:=bV
abbrev ID:=inClass (top 112) 0
def aen:Sc sx sx ID:=bV
abbrev IE:=inClass (top 112) 1
def aeo:Sc eS eS IE:=bV
abbrev IF:=inClass (top 112) 2
def aep:Sc eS eS IF:=bV
abbrev IG:=inClass (top 112) 3
def IH:Sc ["self","size","start"] eS IG:=bV
abbrev II:=inClass (top 117) 0
def aeq:Sc eS eS II:=bV
abbrev IJ:=inClass (top 117) 1
def Td:Sc ["self","row","lines"] pu IJ:=bV
abbrev IK:=inClass (top 117) 2
def Te:Sc ["self","row","line"] pu IK:=bV
abbrev IL:=inClass (top 117) 3
def Tf:Sc ["self","number","refusal"] sv IL:=bV
abbrev IM:=inClass (top 117) 4
def IN:Sc ["self","one","two","refusal","line"] Hc IM:=bV
abbrev IP:=inClass (top 117) 5
def Tg:Sc ["self","clash"] eS IP:=bV
abbrev IQ:=inClass (top 117) 6
def aer:Sc eS eS IQ:=bV
abbrev IR:=inClass (top 117) 7
def aes:Sc eS eS IR:=bV
abbrev IS:=inClass (top 117) 8
def aet:Sc eS eS IS:=bV
abbrev IT:=inClass (top 117) 9
def aeu:Sc eS eS IT:=bV
abbrev IU:=inClass (top 117) 10
def aev:Sc qG qG IU:=bV
abbrev IV:=inClass (top 117) 11
def aew:Sc qH qH IV:=bV
abbrev IW:=inClass (top 117) 12
def aex:Sc BL BL IW:=bV
abbrev IX:=inClass (top 117) 13
def aey:Sc BM BM IX:=bV
abbrev IY:=inClass (top 117) 14
def aez:Sc qG qG IY:=bV
abbrev IZ:=inClass (top 117) 15
def aeA:Sc qH qH IZ:=bV
abbrev I0:=inClass (top 117) 16
def I1:Sc ["self","row","refusal","lines"] pu I0:=bV
abbrev I2:=inClass (top 117) 17
def BZ:Sc ["self","numbers","lines","clash","number","line"] sx I2:=bV
abbrev I3:=top 118
def aeB:Sc BN BN I3:=bV
abbrev I4:=top 119
def aeC:Sc BO BO I4:=bV
abbrev I5:=top 120
def B0:Sc ["desk","call","tape","one","thing","word"] Hd I5:=bV
abbrev B1:=top 121
def yj:Sc ["calls","desk","tape","told","found"] ["calls"] B1:=bV
structure dt (K:Frag)(x cL:Str)(st:Stmt)(ps:List Str):Type where
 f:Addr
 fd:FuncData
 F:pd K x cL st f fd
 b:Binds K fd ps []
abbrev cM {K:Frag}{x cL:Str}{st:Stmt}{ps:List Str}(am:Str->Option Value)(af:dt K x cL st ps):Prop:=am x=some (.ref af.f)
abbrev gk {K:Frag}{x cL:Str}{st:Stmt}{ps:List Str}(C:Addr)(af:dt K x cL st ps):Prop:=Meth K C x af.f
abbrev cN (K:Frag)(x:Str)(st:Stmt)(ps:List Str):=dt K x x st ps
abbrev Ok {K:Frag}{x cL:Str}{st:Stmt}{ps:List Str}(P:Program)(w:World)(am:Str->Option Value)(base:Heap)(n:Nat)(af:dt K x cL st ps)(sp:bA):Prop:=fB P w K am base h2 n af.f af.fd ps sp
inductive Bd(X:bE)(b:List Stmt)(af:Ends)(L:ef.St)(H:aP):Prop|mk t:ki X b t->t af L H->Bd X b af L H
def bX {st:Stmt}{K:Frag}(F:pd K x cL st f fd)(S:t3 N ps (h1 st))(h:∀H vs Q E,sp vs H Q E->vs.length=ps.length/\∀dI A outer s,ea k (A.deeper (envOfC cL (h1 st) ⇑s f dI))->(A.deeper (envOfC cL (h1 st) ⇑s f dI)).units+1<cLine->(A.deeper (envOfC cL (h1 st) ⇑s f dI)).units+64<cLine->let X:=(rW h2 P w K am base N cL (h1 st) f dI A outer s H E).xa;Bd X (lS st) {a7:=λ _ J=>Q .b6 J,nM:=Q} (start N vs) H):fB P w K am base h2 (k+1) f fd ps sp:=F.ok S (λ vs H Q E q=>(h H vs Q E q).1) λ dI A outer s H vs Q E ab q=>let⟨t,a,b⟩:(Bd _ _ _ _ _):=(h H vs Q E q).2 dI A outer s ab (Qv ab) ab.units;⟨t,a,b⟩
def dD (K:Frag)(a:Addr)(xs:List V):Prop:=∃o aR n,K.lookup a=some o/\o.cls=.type "tuple"/\o.data=.seq aR n/\aR.size<=sizeLine/\Vals xs aR.toList
def fE (am:Str->Option Value)(x:Str)(i:Int):Prop:=∃t,am x=some (.int i t)
def B2 (am:Str->Option Value)(x y:Str):Prop:=∃t,am x=some (.str y t)
set_option genInjectivity false
set_option genSizeOf false
structure aeD (K:Frag)(am:Str->Option Value):Type where
 hk:dt K "__init__" "Told.__init__" He ["self","lines"]
 sA:dt K "tell" "Told.tell" BP ["self","line"]
 hI:dt K "line" "Told.line" Hf sv
 qI:dt K "all_about" "Told.all_about" Hg qF
 jo:dt K "first_about" "Told.first_about" Hh qF
 qJ:dt K "first_saying" "Told.first_saying" Hi BD
 qK:cN K "steps_up" Hj uT
 yk:cM am qK
 sB:cN K "steps_to" Hk G2
 B3:cM am sB
 sC:cN K "names_above" Hm uT
 B4:cM am sC
 j4:cN K "kinds_up" Ho ng
 l':cM am j4
 qL:cN K "nearest_saying" Hp G3
 yl:cM am qL
 qM:cN K "names_about" Hr ["told","forms"]
 ym:cM am qM
 pv:cN K "is_there" Ht ng
 u3:cM am pv
 qN:cN K "is_let" Hu BE
 yn:cM am qN
 pw:cN K "has_kind" Hv nh
 u4:cM am pw
 ma:cN K "kind_of" Hw nh
 px:cM am ma
 u5:cN K "is_founded" Hx oe
 I6:cM am u5
 sD:cN K "unfounded_lines" Hy ga
 B5:cM am sD
 sE:dt K "__init__" "Held.__init__" Hz BF
 sF:cN K "held_by" HA BG
 B6:cM am sF
 held:cN K "held" HB G4
 yo:cM am held
 u6:cN K "kinds_from" HC BH
 I7:cM am u6
 reasons:cN K "reasons" HD G5
 I8:cM am reasons
 lf:dt K "__init__" "Sentence.__init__" BS BI
 jp:cN K "text_of" HF l_
 lg:cM am jp
 qO:cN K "row_of" HG ["text"]
 yp:cM am qO
 u7:cN K "is_name" HI ["word"]
 I9:cM am u7
 u9:cN K "is_number" HK ["word"]
 I_:cM am u9
 fits:cN K "fits" HL BJ
 I':cM am fits
 fill:cN K "fill" HM ["shape","words"]
 Ja:cM am fill
 sG:cN K "read_sentence" HN l_
 B7:cM am sG
 u_:cN K "shape_of" HO uU
 Jb:cM am u_
 written:cN K "written" HQ uU
 Jc:cM am written
 sH:cN K "each_once" HR ["names"]
 B8:cM am sH
 u':cN K "definite_words" HT G6
 Jd:cM am u'
 va:cN K "first_contrary" HU ["told","words"]
 Je:cM am va
 sI:cN K "tear_of" HV ["told"]
 B9:cM am sI
 sJ:cN K "are_torn" HW ga
 B_:cM am sJ
 vb:cN K "first_tear" HX ga
 Jf:cM am vb
 vc:cN K "way_by_itself" HY ["line"]
 Jg:cM am vc
 sK:cN K "parts_of" HZ ["line"]
 B':cM am sK
 vd:cN K "other_part" H2 ["played","line"]
 Jh:cM am vd
 ve:cN K "contrary_line" H3 oe
 Ji:cM am ve
 vf:cN K "ring_of" H4 oe
 Jj:cM am vf
 vg:cN K "clash_with" H5 G7
 Jk:cM am vg
 vh:cN K "clash_but_tear" H6 ga
 Jl:cM am vh
 qP:cN K "clash_of" H7 ga
 yq:cM am qP
 og:cN K "makes_world" H8 ga
 sL:cM am og
 qQ:cN K "words_let" H9 G8
 yr:cM am qQ
 vi:cN K "form_of_kind" H_ ng
 Jm:cM am vi
 vj:cN K "form_of_thing" H' nh
 Jn:cM am vj
 qR:cN K "one_form" Ia ga
 yt:cM am qR
 qS:cN K "are_bytes" Ib ["row","longest"]
 yu:cM am qS
 sM:cN K "are_line_numbers" Ie ["numbers"]
 Ca:cM am sM
 sN:cN K "refusal_of_lines" Ih G9
 Cb:cM am sN
 qT:cN K "refusal_in_world" Ij G_
 yv:cM am qT
 sO:cN K "refusal_of_kind" Il j3
 Cc:cM am sO
 qU:cN K "refusal_of_thing" Im G'
 yw:cM am qU
 vk:cN K "refusal_of_word" Io Ha
 Jo:cM am vk
 qV:cN K "as_names" Iq ["names"]
 yx:cM am qV
 vl:cN K "kind_answer" It j3
 Jp:cM am vl
 vm:cN K "chain_answer" Iu j3
 Jq:cM am vm
 sP:cN K "held_answer" Iv Hb
 Cd:cM am sP
 vn:cN K "place_answer" Iw j3
 Jr:cM am vn
 vo:cN K "things_answer" Ix j3
 Js:cM am vo
 parted:cN K "parted" Iy l_
 Jt:cM am parted
 m7:cN K "read_page" IA l_
 Ce:cM am m7
 py:cN K "bytes_of" IB ga
 vp:cM am py
 vq:dt K "__init__" "Tape.__init__" ID sx
 vr:dt K "at_end" "Tape.at_end" IE eS
 oh:dt K "take_one" "Tape.take_one" IF eS
 qW:dt K "take_row" "Tape.take_row" IG eS
 vt:dt K "__init__" "Desk.__init__" II eS
 vu:dt K "text" "Desk.text" IJ pu
 vv:dt K "add" "Desk.add" IK pu
 vw:dt K "cut" "Desk.cut" IL sv
 vx:dt K "swap" "Desk.swap" IM Hc
 vy:dt K "clash" "Desk.clash" IP eS
 vz:dt K "lacking" "Desk.lacking" IQ eS
 vA:dt K "makes" "Desk.makes" IR eS
 vB:dt K "shown" "Desk.shown" IS eS
 vC:dt K "normal" "Desk.normal" IT eS
 vD:dt K "kind" "Desk.kind" IU qG
 vE:dt K "chain" "Desk.chain" IV qH
 vF:dt K "is_so" "Desk.is_so" IW BL
 vG:dt K "number" "Desk.number" IX BM
 vH:dt K "place" "Desk.place" IY qG
 vI:dt K "things" "Desk.things" IZ qH
 vJ:dt K "same" "Desk.same" I0 pu
 vK:dt K "alone" "Desk.alone" I2 sx
 vL:cN K "answer_to_row" I3 BN
 Ju:cM am vL
 vM:cN K "answer_to_bare" I4 BO
 Jv:cM am vM
 answer:cN K "answer" I5 Hd
 Jw:cM am answer
 answers:cN K "answers" B1 ["calls"]
 Jx:cM am answers
structure aeE (K:Frag)(am:Str->Option Value) extends aeD K am where
 fi:Addr
 c4:fo K fi
 j5:am "Told"=some (.ref fi)
 j6:jI K fi hk.f
 oi:fb K fi "lines"
 vN:fb K fi "numbers"
 yy:fb K fi "firsts"
 Cf:gk fi sA
 iZ:gk fi hI
 yz:gk fi qI
 lh:gk fi jo
 yA:gk fi qJ
 qX:Addr
 jq:fo K qX
 Cg:am "Held"=some (.ref qX)
 Ch:jI K qX sE.f
 vO:fb K qX "said"
 yB:fb K qX "how"
 vP:fb K qX "source"
 da:Addr
 bB:fo K da
 oj:am "Sentence"=some (.ref da)
 om:jI K da lf.f
 gN:fb K da "form"
 ia:fb K da "about"
 gO:fb K da "other"
 oo:fb K da "said"
 oq:Addr
 f6:fo K oq
 Jy:am "Tape"=some (.ref oq)
 Jz:jI K oq vq.f
 vQ:fb K oq "numbers"
 pz:fb K oq "taken"
 JA:gk oq vr
 sQ:gk oq oh
 yC:gk oq qW
 e2:Addr
 cI:fo K e2
 JB:am "Desk"=some (.ref e2)
 JC:jI K e2 vt.f
 fF:fb K e2 "lines"
 JD:gk e2 vu
 JE:gk e2 vv
 JF:gk e2 vw
 JG:gk e2 vx
 JH:gk e2 vy
 JI:gk e2 vz
 JJ:gk e2 vA
 JK:gk e2 vB
 JL:gk e2 vC
 JM:gk e2 vD
 JN:gk e2 vE
 JO:gk e2 vF
 JP:gk e2 vG
 JQ:gk e2 vH
 JR:gk e2 vI
 JS:gk e2 vJ
 JT:gk e2 vK
structure e3 (K:Frag)(am:Str->Option Value) extends aeE K am where
 sR:fE am "KIND" (1)
 ot:fE am "OVER" (2)
 sS:fE am "CAN_BE" (3)
 sT:fE am "HAS" (4)
 mb:fE am "IS_A" (5)
 sU:fE am "IS" (6)
 yD:fE am "EVERY" (7)
 JU:fE am "USUALLY" (8)
 Ci:fE am "NUMBER" (9)
 sV:fE am "IN" (11)
 Th:Addr
 Cj:am "LETTING"=some (.ref Th)
 JV:l5 K Th [(.inl 6,.int (3)),(.inl 7,.int (3)),(.inl 8,.int (3)),(.inl 9,.int (4)),(.inl 10,.int (4))]
 Ck:fE am "TOLD" (1)
 Cm:fE am "NOT_SAID" (4)
 Ti:Addr
 Cn:am "TELLING"=some (.ref Ti)
 JW:l5 K Ti [(.inl 3,.int (6)),(.inl 4,.int (9))]
 Tj:Addr
 Co:am "SAYING"=some (.ref Tj)
 Cp:Addr
 JX:Addr
 JY:dD K JX [.int (7),.int (2)]
 JZ:Addr
 J0:dD K JZ [.int (8),.int (3)]
 yE:dD K Cp [.ref JX,.ref JZ]
 Cq:Addr
 J1:Addr
 J2:dD K J1 [.int (10),.int (3)]
 Cr:dD K Cq [.ref J1]
 yF:l5 K Tj [(.inl 3,.ref Cp),(.inl 4,.ref Cq)]
 J3:B2 am "SIGNS" " -.0123456789abcdefghijklmnopqrstuvwxyz"
 J4:B2 am "LETTERS" "abcdefghijklmnopqrstuvwxyz"
 J5:Addr
 Cs:am "WORDS"=some (.ref J5)
 J6:dD K J5 [.str "is",.str "a",.str "kind",.str "of",.str "can",.str "be",.str "has",.str "number",.str "every",.str "usually",.str "not",.str "the",.str "in"]
 yG:fE am "LONGEST_NAME" (12)
 Ct:fE am "LARGEST_NUMBER" (1000000000)
 vR:Addr
 yH:am "SHAPES"=some (.ref vR)
 J7:Addr
 J8:dD K J7 [.int (1),.int (1),.str "ABOUT is a kind"]
 J9:Addr
 J_:dD K J9 [.int (2),.int (1),.str "ABOUT is a kind of OTHER"]
 J':Addr
 Ka:dD K J' [.int (3),.int (1),.str "ABOUT can be OTHER"]
 Kb:Addr
 Kc:dD K Kb [.int (4),.int (1),.str "ABOUT has a number OTHER"]
 Kd:Addr
 Ke:dD K Kd [.int (5),.int (1),.str "ABOUT is a OTHER"]
 Kf:Addr
 Kg:dD K Kf [.int (6),.int (1),.str "ABOUT is OTHER"]
 Kh:Addr
 Ki:dD K Kh [.int (6),.int (0),.str "ABOUT is not OTHER"]
 Kj:Addr
 Kk:dD K Kj [.int (7),.int (1),.str "every ABOUT is OTHER"]
 Kl:Addr
 Km:dD K Kl [.int (7),.int (0),.str "every ABOUT is not OTHER"]
 Kn:Addr
 Ko:dD K Kn [.int (8),.int (1),.str "usually every ABOUT is OTHER"]
 Kp:Addr
 Kq:dD K Kp [.int (8),.int (0),.str "usually every ABOUT is not OTHER"]
 Kr:Addr
 Ks:dD K Kr [.int (9),.int (1),.str "the OTHER of ABOUT is SAID"]
 Kt:Addr
 Ku:dD K Kt [.int (10),.int (1),.str "the OTHER of every ABOUT is usually SAID"]
 Kv:Addr
 Kw:dD K Kv [.int (11),.int (1),.str "ABOUT is in OTHER"]
 hJ:dD K vR [.ref J7,.ref J9,.ref J',.ref Kb,.ref Kd,.ref Kf,.ref Kh,.ref Kj,.ref Kl,.ref Kn,.ref Kp,.ref Kr,.ref Kt,.ref Kv]
 Cu:fE am "TWO_PARTS" (1)
 Kx:fE am "TORN" (7)
 Tk:Addr
 Cv:am "CONTRARY_WAYS"=some (.ref Tk)
 Ky:l5 K Tk [(.inl 2,.int (2)),(.inl 5,.int (4)),(.inl 6,.int (5)),(.inl 7,.int (6)),(.inl 8,.int (11)),(.inl 9,.int (8)),(.inl 10,.int (12)),(.inl 11,.int (9))]
 Tl:Addr
 vS:am "RING_WAYS"=some (.ref Tl)
 yI:l5 K Tl [(.inl 2,.int (3)),(.inl 11,.int (10))]
 Tn:Addr
 Cw:am "PARTS"=some (.ref Tn)
 Kz:Addr
 KA:dD K Kz [.str "kind",.str ""]
 KC:Addr
 KD:dD K KC [.str "kind",.str "kind"]
 KE:Addr
 KG:dD K KE [.str "kind",.str "quality"]
 KH:Addr
 KI:dD K KH [.str "kind",.str "number"]
 KJ:Addr
 KL:dD K KJ [.str "thing",.str "kind"]
 KN:Addr
 KO:dD K KN [.str "thing",.str "quality"]
 KP:Addr
 KQ:dD K KP [.str "kind",.str "quality"]
 KR:Addr
 KS:dD K KR [.str "kind",.str "quality"]
 KU:Addr
 KV:dD K KU [.str "thing",.str "number"]
 KW:Addr
 KX:dD K KW [.str "kind",.str "number"]
 KY:Addr
 KZ:dD K KY [.str "thing",.str "thing"]
 kC:l5 K Tn [(.inl 1,.ref Kz),(.inl 2,.ref KC),(.inl 3,.ref KE),(.inl 4,.ref KH),(.inl 5,.ref KJ),(.inl 6,.ref KN),(.inl 7,.ref KP),(.inl 8,.ref KR),(.inl 9,.ref KU),(.inl 10,.ref KW),(.inl 11,.ref KY)]
 vT:fE am "MOST_LINES" (40)
 Cx:fE am "LONGEST_TEXT" (4000)
 K0:fE am "LONGEST_SENTENCE" (100)
 K1:fE am "LARGEST_BYTE" (255)
 sW:fE am "OUT_OF_RANGE" (-1)
 K2:fE am "NO_SUCH_LINE" (-2)
 K3:fE am "NO_SENTENCE" (-3)
 Cy:fE am "NO_WORLD" (-4)
 Cz:fE am "NOT_THERE" (-5)
 K4:fE am "NOT_LET" (-6)
 K5:fE am "TEXT_FULL" (-7)
 CA:fE am "LINE_END" (10)
 K6:Addr
 CB:am "BARE_CALLS"=some (.ref K6)
 K7:dD K K6 [.int (4),.int (5),.int (6),.int (7),.int (8)]
 vU:Addr
 CC:am "ROW_CALLS"=some (.ref vU)
 vV:dD K vU [.int (0),.int (1),.int (9),.int (10),.int (13),.int (14),.int (15),.int (16)]
 K8:PlainEq K da
 K9:am "abs"=none
 vW:am "all"=none
 K_:am "any"=none
 K':am "dict"=none
 CD:am "enumerate"=none
 yJ:am "int"=none
 eu:am "len"=none
 CE:am "list"=none
 La:am "min"=none
 CF:am "ord"=none
 yK:am "set"=none
 sX:am "sorted"=none
 yL:am "str"=none
 Lb:am "zip"=none
variable{bI:Program}{bJ:World}{K:Frag}{am:Str->Option Value}{bK:Heap}(T:e3 K am)
section
variable{X:bE}
def bQ (i)(d6:X.N.Nodup)(a3:a9 X e cc)(aj:X.N[i]?=some x:=by rfl)(aa:Loc X.env.scope x:=by exact .inl z)(au:swapsWith e (some (.Name x lE)) pos.line X.env=pure false:=by rfl)(aS:X.fn x=true\/X.env.scope.names.lookup x=some .local:=by nofun):
  kh X (.Assign [.Name x lE] e pos) (xf cc (mF i)):=tW d6 aj aa a3 au aS
def ib (i)(d6:X.N.Nodup)(aj:X.N[i]?=some x:=by rfl)(aa:Loc X.env.scope x:=by exact .inl z)(aS:X.fn x=true\/X.env.scope.names.lookup x=some .local:=by nofun):lH X (.Name x pos) (mF i):=gF d6 aj aa aS
structure Lc (X:bE)(T:String)(name:Str)(id:String)(r:V->List V->aP->d7->Prop):Prop where
 EX:PlainAttrs T
 slot:Slot T name id
 qg:typeOf (.builtin id)=pure (.type "method_descriptor")
 hm:lL X id r
def hK:Lc X "list" "append" "list.append" Pr:=⟨wv,N0,PySem.F.type_list_append,Ya⟩
def qY:Lc X "list" "extend" "list.extend" Ps:=⟨wv,N1,PySem.F.type_list_extend,Yb⟩
def fX {T id:String}(b:Lc X T name id r)(aT:a9 X o dP)(az:gf X (e::ae) t)
  (mQ:attributeBase o name X.env (eval o X.env)=eval o X.env:=by rfl)
  (qh:((backTo gh (starEach (e::ae) X.env)).all (λ x=> !x.1)&&(backToKw gh (keywordEach [] X.env)).all (λ x=>x.1.isSome)
   &&decide ((e::ae).length+([]:List Keyword).length+(if ([]:List Keyword).isEmpty then 0 else 1)<30))=true:=by rfl)
  (mR:(d1.endLine==gh.line)=true:=by rfl) (au:starEach (e::ae) X.env=(false,eval e X.env)::starEach ae X.env:=by rfl) (EY:(backTo gh (starEach ae X.env)).any (·.1)=false:=by rfl):
  a9 X (.Call (.Attribute o name d1) (e::ae) [] gh) (Pp X.K T r dP t):=Ao b.EX b.slot b.qg b.hm aT az mQ qh mR au EY
end
open M (ag aF aD bv bm cg cH a7 b' bF isNeg cW intOf iA f2 bd l1 hF kk c9 ft sub l4 fU d3 isLet cV iB jk hH dW d4 m9)
def st (b:Bytes):Str:=⟨b.toArray⟩
def jr (h:st a=st b):a=b:=by have:a.toArray=b.toArray:=congrArg Str.cps h;have:=congrArg Array.toList this;simpa using this
def vX (f:Int)(a o:Str)(n:Int):List (Str×V):=[("form",.int f),("about",.str a),("other",.str o),("said",.int n)]
def pA (s:Sen):List (Str×V):=vX (ag s) (st (aF s)) (st (aD s)) (bv s)
def j7 (aZ:Addr)(H:aP)(a:Addr)(s:Sen):Prop:=∃dx,H a=some (.ins aZ dx (pA s))
structure dg (aZ:Addr)(H:aP)(as:List Addr)(ss:List Sen):Prop where
 len:as.length=ss.length
 at_:∀(i:Nat)(a:Addr)(s:Sen),as[i]?=some a->ss[i]?=some s->j7 aZ H a s
def dg.nil:dg aZ H [] []:=⟨z,λ _ _ _ h=>by simp at h⟩
def dg.get (h:dg aZ H as ss){i:Nat}(e:as[i]?=some a):∃s,ss[i]?=some s/\j7 aZ H a s:=by
 have aj:i<ss.length:=by rw[<-h.len];exact(c_.mp e).1
 exact⟨ss[i],ez aj,h.at_ i a _ e (ez aj)⟩
def dg.of (h:dg aZ H as ss){i:Nat}(e:ss[i]?=some s):∃a,as[i]?=some a/\j7 aZ H a s:=by
 have aj:i<as.length:=by rw[h.len];exact(c_.mp e).1
 exact⟨as[i],ez aj,h.at_ i _ s (ez aj) e⟩
def j7.same (k:aH H J)(h:j7 aZ H a s):j7 aZ J a s:=by obtain⟨dx,e⟩:=h;exact⟨dx,k _ _ e⟩
def dg.same (k:aH H J)(h:dg aZ H as ss):dg aZ J as ss:=⟨h.len,λ i a s ap ao=>(h.at_ i a s ap ao).same k⟩
def dg.snoc (h:dg aZ H as ss)(e:j7 aZ H a s):dg aZ H (as++[a]) (ss++[s]):=by
 refine⟨by simp[h.len],λ i b u ap ao=>?_⟩;by_cases q:i<as.length
 ·rw[jx q] at ap;rw[jx (by rw[<-h.len];exact q)] at ao;exact h.at_ i b u ap ao
 ·rw[ti ⇑1] at ap;rw[ti (by rw[<-h.len];omega)] at ao;have bz:i - as.length=0:=by have:=(c_.mp ap).1;simp at this;omega
  rw[bz] at ap;rw[<-h.len,bz] at ao;have:a=b:=by simpa using ap
  subst this;have:s=u:=by simpa using ao
  subst this;exact e
def bw (e:H b=some u)(h:b≠p):upd H p o b=some u:=by rw[dv h];exact e
def bp (h:H p=none):aH H (upd H p o):=λ _ _ e=>bw e (cy e h)
def ev (k:aH H J)(h:H p=none):aH H (upd J p o):=λ b u e=>bw (k b u e) (cy e h)
structure Ld (K:Frag)(aZ ci:Addr):Prop where
 ni:fo K aZ
 Le:fb K aZ "form"
 S2:fb K aZ "about"
 j8:fb K aZ "other"
 aeF:fb K aZ "said"
 qZ:fo K ci
 To:fb K ci "lines"
 uR:fb K ci "numbers"
 aeG:fb K ci "firsts"
section
variable{aZ ci:Addr}
inductive Lf(aZ:Addr)(vs:List V)(H:aP)(Q:d7)(E:mD):Prop|mk p dx f a o n:vs=[.ref p,.int f,.str a,.str o,.int n]->H p=some (.ins aZ dx [])->(∀J:aP,J p=some (.ins aZ dx (vX f a o n))->(∀b u,H b=some u->b≠p->J b=some u)->Q .b6 J)->Lf aZ vs H Q E
def aeH (F:pd K "__init__" "Sentence.__init__" BS f fd)(T:Ld K aZ ci):fB bI bJ K am bK h2 1 f fd ["self","form","about","other","said"] (Lf aZ):=by
 refine F.ok aeh (λ vs H Q E h=>?_) (λ _ _ _ _ H vs Q E _ h=>?_)
 ·obtain⟨p,dx,iF,a,o,n,rfl,_⟩:=h;rfl
 ·obtain⟨p,dx,iF,a,o,n,rfl,ar,k⟩:=h;refine⟨_,aJ (jd (O 0) (O 1) z) (aJ (jd (O 0) (O 2) z) (aJ (jd (O 0) (O 3) z) (aN (jd (O 0) (O 4) z)))),?_⟩;refine⟨_,z,_,z,p,aZ,dx,[],z,ar,T.ni,T.Le,(by show 0<1000;decide),?_⟩;refine⟨_,z,_,z,p,aZ,dx,_,z,aI,T.ni,T.S2,(by show 1<1000;decide),?_⟩;refine⟨_,z,_,z,p,aZ,dx,_,z,aI,T.ni,T.j8,(by show 2<1000;decide),?_⟩;refine⟨_,z,_,z,p,aZ,dx,_,z,aI,T.ni,T.aeF,(by show 3<1000;decide),?_⟩;refine k _ ?_ λ _ _ e Y=>by rw[dv Y,dv Y,dv Y,dv Y];exact e
  rw[aI];rfl
end
def ic (f:Nat)(n:Bytes):List Key:=[.inl (f:Int),.inr (st n)]
def kD (f:Nat)(n o:Bytes):List Key:=[.inl (f:Int),.inr (st n),.inr (st o)]
def aeI (h:ic f n=ic g m):f=g/\n=m:=by
 unfold ic at h;injection h with D G
 injection G with G _;injection D with D;injection G with G;exact⟨⇑1,jr G⟩
def aeJ (h:kD f n o=kD g m q):f=g/\n=m/\o=q:=by
 unfold kD at h;injection h with D G
 injection G with G an;injection an with an _;injection D with D;injection G with G;injection an with an;exact⟨⇑1,jr G,jr an⟩
abbrev nb (ss:List Sen):Lines:=⇑6 ss
def numsOf (ss:List Sen)(f:Nat)(n:Bytes):List Nat:=((nb ss).filter λ x=>cg f n x.2).map (·.1)
def br (l:List Nat):List V:=l.map λ(n:Nat)=>V.int (n:Int)
def Lg (ss)(s):nb (ss++[s])=nb ss++[(ss.length+1,s)]:=by unfold nb;rw[M.QP];show _++[(1+ss.length,s)]=_;rw[zS]
def aeK (ss)(s)(f)(n):numsOf (ss++[s]) f n=numsOf ss f n++if cg f n s=true then[ss.length+1] else[]:=by
 unfold numsOf;rw[Lg,lw,db];congr 1;rw[g4];by_cases h:cg f n s=true;·rw[aA h,aA h];rfl
 ·rw[ay h,ay h];rfl
def Tp (h:i∈numsOf ss f n):∃s,(i,s)∈nb ss/\ag s=f/\aF s=n:=by unfold numsOf at h;obtain⟨x,aa,rfl⟩:=cd.mp h;obtain⟨D,G⟩:=dX.mp aa;obtain⟨a',a5⟩:=M.fK.mp G;exact⟨x.2,D,a',a5⟩
def aeL (h:numsOf ss f n=numsOf ss g m)(aX:numsOf ss f n≠[]):f=g/\n=m:=by
 cases e:numsOf ss f n with
 |nil=>exact absurd e aX
 |cons i r=>obtain⟨_,D,G,an⟩:=Tp (i:=i) (by rw[e];exact cn);obtain⟨_,a',a5,bn⟩:=Tp (ss:=ss) (f:=g) (n:=m) (i:=i) (by rw[<-h,e];exact cn);have:=M.n2 _ D _ a' z;have ao:=congrArg Prod.snd this;subst ao;exact⟨G.symm.trans a5,an.symm.trans bn⟩
def aeM (ss)(f)(n):(numsOf ss f n).head? =(bm (cg f n) (nb ss)).map (·.1):=by unfold numsOf;rw[List.head?_map,M.head_filter];rfl
def numsOf_len (ss)(f)(n):(numsOf ss f n).length<=ss.length:=by unfold numsOf;rw[be];refine cK (hR _ _) ?_;rw[M.kr];exact bG _
def Tq (h:br l=br m):l=m:=by
 unfold br at h;induction l generalizing m with
 |nil=>cases m with
  |nil=>rfl
  |cons _ _=>simp at h
 |cons x r ih=>cases m with
  |nil=>simp at h
  |cons y t=>
   rw[bU,bU] at h;injection h with D G
   injection D with D;rw[ih G,Int.ofNat.inj D]
def vY (av nd fd:Addr):List (Str×V):=[("lines",.ref av),("numbers",.ref nd),("firsts",.ref fd)]
structure vZ (aZ ci:Addr)(H:aP)(a dx av nd fd:Addr)(kvN kvF:List (List Key×V))(as:List Addr)(ss:List Sen):Prop where
 obj:H a=some (.ins ci dx (vY av nd fd))
 lst:H av=some (.lst (as.map V.ref))
 num:H nd=some (.e7 kvN)
 fst:H fd=some (.e7 kvF)
 kE:dg aZ H as ss
 CG:kvN.length<=ss.length
 CH:kvF.length<=ss.length
 small:ss.length<=4096
 kf:fd≠nd
 q0:∀(f:Nat)(n:Bytes),(numsOf ss f n=[]/\b4 kvN (ic f n)=none)\/(numsOf ss f n≠[]/\∃l,b4 kvN (ic f n)=some (.ref l)/\H l=some (.lst (br (numsOf ss f n))))
 yM:∀(f:Nat)(n o:Bytes),b4 kvF (kD f n o)=(bm (cH f n o) (nb ss)).map λ x=>V.int (x.1:Int)
structure q2 (H0:aP)(aZ ci:Addr)(H:aP)(a dx av nd fd:Addr)(kvN kvF:List (List Key×V))(as:List Addr)(ss:List Sen):Prop where
 r:vZ aZ ci H a dx av nd fd kvN kvF as ss
 base:aH H0 H
 ol:H0 av=none
 on:H0 nd=none
 of:H0 fd=none
 q3:∀(f:Nat)(n:Bytes)(l:Addr),b4 kvN (ic f n)=some (.ref l)->H0 l=none
def vZ.same (k:aH H J)(h:vZ aZ ci H a dx av nd fd kvN kvF as ss):vZ aZ ci J a dx av nd fd kvN kvF as ss:=⟨k _ _ h.obj,k _ _ h.lst,k _ _ h.num,k _ _ h.fst,h.kE.same k,h.CG,h.CH,h.small,h.kf,λ f n=>(h.q0 f n).imp_right λ⟨aX,l,D,G⟩=>⟨aX,l,D,k _ _ G⟩,h.yM⟩
def q2.same (k:aH H J)(h:q2 H0 aZ ci H a dx av nd fd kvN kvF as ss):q2 H0 aZ ci J a dx av nd fd kvN kvF as ss:=⟨h.r.same k,h.base.trans k,h.ol,h.on,h.of,h.q3⟩
inductive yN(aZ ci:Addr)(H:aP)(a:Addr)(as:List Addr)(ss:List Sen):Prop|mk dx av nd fd kvN kvF:vZ aZ ci H a dx av nd fd kvN kvF as ss->yN aZ ci H a as ss
def yN.same (k:aH H J)(h:yN aZ ci H a as ss):yN aZ ci J a as ss:=by obtain⟨dx,av,nd,fd,kvN,kvF,r⟩:=h;exact⟨dx,av,nd,fd,kvN,kvF,r.same k⟩
def CI (av nd fd):(vY av nd fd).lookup ("lines":Str)=some (.ref av):=rfl
def Lh (av nd fd):(vY av nd fd).lookup ("numbers":Str)=some (.ref nd):=rfl
def Tr (av nd fd):(vY av nd fd).lookup ("firsts":Str)=some (.ref fd):=rfl
def Li (s):(pA s).lookup ("form":Str)=some (.int (ag s)):=rfl
def Lj (s):(pA s).lookup ("about":Str)=some (.str (st (aF s))):=rfl
def Ts (s):(pA s).lookup ("other":Str)=some (.str (st (aD s))):=rfl
def aeN (s):(pA s).lookup ("said":Str)=some (.int (bv s)):=rfl
section
variable{aZ ci:Addr}
inductive Tt(aZ ci:Addr)(vs:List V)(H:aP)(Q:d7)(E:mD):Prop|mk H0 a b dx av nd fd kvN kvF as ss s:vs=[.ref a,.ref b]->q2 H0 aZ ci H a dx av nd fd kvN kvF as ss->j7 aZ H b s->ss.length<4096->(∀J mc nj,q2 H0 aZ ci J a dx av nd fd mc nj (as++[b]) (ss++[s])->Q .b6 J)->Tt aZ ci vs H Q E
def CJ (h:n<=4096):n<sizeLine:=kR h ⇑0
def jZ.old (g:dV H a y (some v))(q:Q v H):jZ H a y B Q:=.inl ⟨v,g,q⟩
def jZ.new (g:dV H a y none)(p:jP H a y B J)(q:Q B J):jZ H a y B Q:=.inr ⟨g,J,p,q⟩
def CK (H:aP)(a:Addr)(y B v:V)(J:aP):Prop:=∀Q:d7,Q v J->jZ H a y B Q
def yO [DecidableEq eB]{aw:List (eB×V)}{k:eB}(h:b4 aw k=none):(putK aw k v).length=aw.length+1:=by rw[Fe v h];simp
def sY [DecidableEq eB]{aw:List (eB×V)}{k j:eB}(h:b4 aw k=none):b4 (putK aw k v) j=if j=k then some v else b4 aw j:=by rw[Fe v h];exact Fd k j v aw h
def aeO {H0:aP}(aB:H nd=some (.e7 kvN))(ar:H p=some (.tup ((ic f n).map c0)))(aK:H q=some (.lst []))(CL:H0 q=none)
  (CG:kvN.length<=ss.length) (small:ss.length<=4096) (q0:(numsOf ss f n=[]/\b4 kvN (ic f n)=none)\/(numsOf ss f n≠[]/\∃l,b4 kvN (ic f n)=some (.ref l)/\H l=some (.lst (br (numsOf ss f n)))))
  (q3:∀l,b4 kvN (ic f n)=some (.ref l)->H0 l=none):
  ∃l J mc,CK H nd (.ref p) (.ref q) (.ref l) J/\J l=some (.lst (br (numsOf ss f n)))/\(∀c o,H c=some o->c≠nd->J c=some o)/\J nd=some (.e7 mc)/\mc.length<=ss.length+1/\
   b4 mc (ic f n)=some (.ref l)/\(∀j,j≠ic f n->b4 mc j=b4 kvN j)/\H0 l=none:=by
 rcases q0 with⟨D,G⟩|⟨D,l,G,an⟩
 ·refine⟨q,upd H nd (.e7 (putK kvN (ic f n) (.ref q))),_,λ Q gD=>jZ.new (by have:=dV.t aB ar;rw[G] at this;exact this) (jP.t aB ar (by have:=CJ small;omega)) gD,?_,?_,aI,?_,?_,?_,CL⟩
  ·rw[D,dv (cw aK aB ⇑3)];exact aK
  ·intro c o e ak;exact bw e ak
  ·rw[yO G];omega
  ·rw[sY G,aA z]
  ·intro j a0;rw[sY G,ay a0]
 ·exact⟨l,H,kvN,λ Q gD=>jZ.old (by have:=dV.t aB ar;rw[G] at this;exact this) gD,an,λ c o e _=>e,aB,⇑1,G,λ j _=>rfl,q3 l G⟩
def aeP {ss:List Sen}(aB:H fd=some (.e7 kvF))(ar:H p=some (.tup ((kD f n o).map c0)))(CH:kvF.length<=ss.length)(small:ss.length<=4096):
  ∃r J nj,CK H fd (.ref p) v r J/\(∀c u,H c=some u->c≠fd->J c=some u)/\J fd=some (.e7 nj)/\nj.length<=ss.length+1/\∀j,b4 nj j=if j=kD f n o/\b4 kvF (kD f n o)=none then some v else b4 kvF j:=by
 cases G:b4 kvF (kD f n o) with
 |none=>
  refine⟨v,upd H fd (.e7 (putK kvF (kD f n o) v)),_,λ Q gD=>jZ.new (by have:=dV.t aB ar;rw[G] at this;exact this) (jP.t aB ar (by have:=CJ small;omega)) gD,?_,aI,?_,?_⟩;·intro c u e ak;exact bw e ak
  ·rw[yO G];omega
  ·intro j;rw[sY G];by_cases e:j=kD f n o
   ·rw[aA e,aA ⟨e,z⟩]
   ·rw[ay e,ay (λ B=>e B.1)]
 |some r=>exact⟨r,H,kvF,λ Q gD=>jZ.old (by have:=dV.t aB ar;rw[G] at this;exact this) gD,λ c u e _=>e,aB,⇑1,λ j=>by rw[ay (λ B=>by cases B.2)]⟩
def aeQ (F:pd K "tell" "Told.tell" BP f fd)(T:Ld K aZ ci)(bR:am "len"=none):fB bI bJ K am bK h2 1 f fd ["self","line"] (Tt aZ ci):=by
 refine F.ok S5 (λ vs H Q E h=>?_) (λ _ _ _ _ H vs Q E ab h=>?_)
 ·obtain⟨H0,a,b,dx,av,nd,yP,kvN,kvF,as,ss,_,rfl,_⟩:=h;rfl
 ·obtain⟨H0,a,b,dx,av,nd,yP,kvN,kvF,as,ss,bD,rfl,W,S,ah,k⟩:=h;have a1:=Qv ab;refine⟨_,aJ (eY (fX hK (cZ (O 0) z) (U (O 1) ai)))
   (aJ (bQ 2 S5.nd (dJ fJ (by rfl) bR eK (U (cZ (O 0) z) ai)))
   (aJ (eY (fX hK
     (Bo a1 (cZ (O 0) z) (gT (U (cZ (O 1) z) (U (cZ (O 1) z) ai))) (b_ ai) ⟨z,z,z,z⟩) (U (O 2) ai)))
   (aN (eY (Bo a1 (cZ (O 0) z) (gT (U (cZ (O 1) z) (U (cZ (O 1) z) (U (cZ (O 1) z) ai)))) (O 2) ⟨z,z,z,z⟩))))),?_⟩
  have R:=W.r;obtain⟨v0,a8⟩:=S;have CM:=cw R.obj R.lst ⇑3;have bg:=cw a8 R.lst ⇑3;have bk:=cw R.num R.lst ⇑3;have f8:=cw R.fst R.lst ⇑3;have Lk:=R.kE.len;refine⟨_,z,a,ci,dx,_,_,z,R.obj,T.qZ,T.To,CI _ _ _,.inl ⟨z,_,aG.of R.lst⟩,_,z,av,_,_,z,z,R.lst,(by rw[be,Lk];exact CJ R.small),?_⟩;refine⟨_,z,a,ci,dx,_,_,z,bw R.obj CM,T.qZ,T.To,CI _ _ _,av,_,z,.inl (aG.of aI),?_⟩;generalize v1:upd H av (.lst (as.map V.ref++[V.ref b]))=H1;have f3:∀c o,H c=some o->c≠av->H1 c=some o:=λ c o e ak=>by rw[<-v1];exact bw e ak
  have n0:H1 av=some (.lst ((as++[b]).map V.ref)):=by rw[<-v1,aI,db];rfl
  have el:(as.map V.ref++[V.ref b]).length=ss.length+1:=by simp[Lk]
  rw[el];refine⟨_,z,a,ci,dx,_,_,z,f3 _ _ R.obj CM,T.qZ,T.uR,Lh _ _ _,nd,z,.inr ⟨kvN,.inl (f3 _ _ R.num bk)⟩,_,z,b,aZ,v0,_,_,z,f3 _ _ a8 bg,T.ni,T.Le,Li bD,_,z,b,aZ,v0,_,_,z,f3 _ _ a8 bg,T.ni,T.S2,Lj bD,
   hv,λ dR yQ=>⟨cQ _,λ q1 sZ=>?_⟩⟩
  generalize k1:upd (upd H1 dR (.tup [V.int (ag bD),V.str (st (aF bD))])) q1 (.lst [])=bj;have f5:aH H1 bj:=by rw[<-k1];exact(bp yQ).trans (bp sZ)
  have aeR:∀c,H1 c=none->H0 c=none:=λ c e=>by
   cases q:H0 c with
   |none=>rfl
   |some o=>have:=f3 c o (W.base c o q) (λ B=>by rw[B,W.ol] at q;cases q);rw[e] at this;cases this
  have x7:=aeR _ ((bp yQ).free sZ);obtain⟨l,b1,mc,v2,ap,ao,bz,fe,fT,n4,x5⟩:=aeO (H0:=H0) (H:=bj) (nd:=nd) (p:=dR) (q:=q1) (kvN:=kvN) (ss:=ss) (f:=ag bD) (n:=aF bD) (f5 _ _ (f3 _ _ R.num bk))
   (by rw[<-k1];exact bw aI (cy aI sZ)) (by rw[<-k1];exact aI) x7 R.CG R.small
   ((R.q0 (ag bD) (aF bD)).imp_right λ⟨aX,l,D,G⟩=>⟨aX,l,D,f5 _ _ (f3 _ _ G (cw G R.lst (by
    intro B;have B:=gn.lst.inj B;cases q:numsOf ss (ag bD) (aF bD) with
    |nil=>exact aX q
    |cons x r=>rw[q] at B;cases as with
     |nil=>cases B
     |cons _ _=>cases B)))⟩) (λ l h=>W.q3 _ _ l h)
  refine v2 _ ⟨.inl ⟨z,_,aG.of ap⟩,_,z,l,_,_,z,z,ap,(by unfold br;rw[be];exact kR (numsOf_len _ _ _) (CJ R.small)),?_⟩;generalize yR:upd b1 l (.lst (br (numsOf ss (ag bD) (aF bD))++[V.int (((ss.length+1:Nat)):Int)]))=eO;have s0:∀c o,H1 c=some o->c≠nd->b1 c=some o:=λ c o e ak=>ao c o (f5 c o e) ak;have pB:∀c o,b1 c=some o->c≠l->eO c=some o:=λ c o e ak=>by rw[<-yR];exact bw e ak
  have gI:=cw R.obj R.num ⇑3;have aeS:=cw a8 R.num ⇑3;have pC:=s0 _ _ n0 (λ B=>bk B.symm);have fl:=s0 _ _ (f3 _ _ R.fst f8) R.kf;have n_:=s0 _ _ (f3 _ _ R.obj CM) gI;have CN:=s0 _ _ (f3 _ _ a8 bg) aeS;have aeT:=cw pC ap (by
   intro B;have B:=gn.lst.inj B;cases q:numsOf ss (ag bD) (aF bD) with
   |nil=>rw[q] at B;simp[br] at B
   |cons x r=>rw[q] at B;cases as with
    |nil=>cases B
    |cons _ _=>cases B)
  have Tu:=cw n_ ap ⇑3;have Ll:=cw CN ap ⇑3;have Lm:=cw fl ap ⇑3;have aeU:=cw bz ap ⇑3;refine⟨_,z,a,ci,dx,_,_,z,pB _ _ n_ Tu,T.qZ,T.aeG,Tr _ _ _,yP,z,.inr ⟨kvF,.inl (pB _ _ fl Lm)⟩,_,z,b,aZ,v0,_,_,z,pB _ _ CN Ll,T.ni,T.Le,Li bD,_,z,b,aZ,v0,_,_,z,pB _ _ CN Ll,T.ni,T.S2,Lj bD,
   _,z,b,aZ,v0,_,_,z,pB _ _ CN Ll,T.ni,T.j8,Ts bD,i8,λ fP iv=>⟨_,z,?_⟩⟩
  have yS:aH eO (upd eO fP (.tup [V.int (ag bD),V.str (st (aF bD)),V.str (st (aD bD))])):=bp iv;obtain⟨r,fI,nj,aeV,a',a5,bn,cx⟩:=aeP (H:=upd eO fP (.tup [V.int (ag bD),V.str (st (aF bD)),V.str (st (aD bD))])) (fd:=yP) (p:=fP) (kvF:=kvF) (ss:=ss) (f:=ag bD) (n:=aF bD) (o:=aD bD) (v:=V.int (((ss.length+1:Nat)):Int))
   (yS _ _ (pB _ _ fl Lm)) aI R.CH R.small
  refine aeV _ ?_;have aQ:∀c o,H c=some o->c≠av->c≠nd->c≠l->c≠yP->fI c=some o:=λ c o e D G an aU=>a' c o (yS _ _ (pB _ _ (s0 _ _ (f3 _ _ e D) G) an)) aU;have aeW:av≠yP:=λ B=>f8 B.symm;have aX:aH H0 fI:=λ c o e=>aQ c o (W.base c o e) (λ B=>by rw[B,W.ol] at e;cases e) (λ B=>by rw[B,W.on] at e;cases e) (λ B=>by rw[B,x5] at e;cases e) (λ B=>by rw[B,W.of] at e;cases e);have Tv:∀c n9 u,H c=some (.ins aZ n9 u)->fI c=some (.ins aZ n9 u):=λ c n9 u e=>
   aQ c _ e (cw e R.lst ⇑3) (cw e R.num ⇑3) (by have:b1 c=some (.ins aZ n9 u):=s0 _ _ (f3 _ _ e (cw e R.lst ⇑3)) (cw e R.num ⇑3);exact cw this ap ⇑3) (cw e R.fst ⇑3)
  have aeX:dg aZ fI (as++[b]) (ss++[bD]):=by refine dg.snoc ⟨Lk,λ i c u D G=>?_⟩ ⟨v0,Tv _ _ _ a8⟩;obtain⟨n9,ak⟩:=R.kE.at_ i c u D G;exact⟨n9,Tv _ _ _ ak⟩
  refine k fI mc nj ⟨⟨?_,?_,?_,a5,aeX,by rw[cX];exact fe,by rw[cX];exact bn,by rw[cX];exact ah,R.kf,?_,?_⟩,aX,W.ol,W.on,W.of,?_⟩;·exact aQ _ _ R.obj CM gI Tu (cw R.obj R.fst ⇑3)
  ·exact a' _ _ (yS _ _ (pB _ _ pC aeT)) aeW
  ·exact a' _ _ (yS _ _ (pB _ _ bz aeU)) (λ B=>R.kf B.symm)
  ·intro iF f9;rw[aeK];by_cases e:ic iF f9=ic (ag bD) (aF bD)
   ·obtain⟨gZ,aeY⟩:=aeI e;subst gZ aeY;rw[aA (M.fK.mpr ⟨z,z⟩)];refine Or.inr ⟨⇑2,l,fT,?_⟩;have:eO l=some (.lst (br (numsOf ss (ag bD) (aF bD)++[ss.length+1]))):=by rw[<-yR,aI];unfold br;rw[db];rfl
    exact a' _ _ (yS _ _ this) (λ B=>Lm B.symm)
   ·have ek:¬cg iF f9 bD=true:=λ B=>e (by obtain⟨D,G⟩:=M.fK.mp B;rw[<-D,<-G]);rw[ay ek,hr,n4 _ e];rcases R.q0 iF f9 with h|⟨D,iG,G,an⟩
    ·exact .inl h
    ·refine Or.inr ⟨D,iG,G,?_⟩;have Tw:=cw an R.lst (by
      intro B;have B:=gn.lst.inj B;cases q:numsOf ss iF f9 with
      |nil=>exact D q
      |cons x r=>rw[q] at B;cases as with
       |nil=>cases B
       |cons _ _=>cases B)
     have Tx:=cw an R.num ⇑3;refine aQ _ _ an Tw Tx ?_ (cw an R.fst ⇑3);have aeZ:=s0 _ _ (f3 _ _ an Tw) Tx;exact cw aeZ ap (λ B=>e (by have B:=Tq (gn.lst.inj B);obtain⟨iC,e_⟩:=aeL B D;rw[iC,e_]))
  ·intro iF f9 fz;rw[cx,Lg,M.Q8,R.yM iF f9 fz,R.yM];by_cases e:kD iF f9 fz=kD (ag bD) (aF bD) (aD bD)
   ·obtain⟨D,G,an⟩:=aeJ e;subst D G an;rw[aA (M.h4.mpr ⟨z,z,z⟩)];cases q:bm (cH (ag bD) (aF bD) (aD bD)) (nb ss) with
    |none=>rw[aA ⟨z,z⟩];rfl
    |some x=>rw[ay (λ B=>by cases B.2)];rfl
   ·have ek:¬cH iF f9 fz bD=true:=λ B=>e (by obtain⟨D,G,an⟩:=M.h4.mp B;rw[<-D,<-G,<-an]);rw[ay (λ B=>e B.1),ay ek,tC]
  ·intro iF f9 iG h;by_cases e:ic iF f9=ic (ag bD) (aF bD)
   ·rw[e,fT] at h;cases h;exact x5
   ·rw[n4 _ e] at h;exact W.q3 iF f9 iG h
end
section
variable{X:bE}{x cL:Str}{st:Stmt}{ps:List Str}{k:Nat}{sp:bA}{e o:Expr}{ae:List Expr}{t:eX}{cc bx:TE}{p pos d1:Pos}
def b5 (h:fE X.am x i)(bL:gr X x:=by rfl)(hd:(x==("__debug__":Str))=false:=by decide):a9 X (.Name x pos) (i' (.int i)):=by obtain⟨t,q⟩:=h;exact Eo bL q ⟨t,z⟩ hd
def Tz (h:B2 X.am x y)(bL:gr X x:=by rfl)(hd:(x==("__debug__":Str))=false:=by decide):a9 X (.Name x pos) (i' (.str y)):=by obtain⟨t,q⟩:=h;exact Eo bL q ⟨t,z⟩ hd
def li (h:X.am x=some (.ref a))(bL:gr X x:=by rfl)(hd:(x==("__debug__":Str))=false:=by decide):a9 X (.Name x pos) (i' (.ref a)):=Eo bL h z hd
def bf (af:dt X.K x cL st ps)(hm:X.am x=some (.ref af.f))(a2:fB X.prog X.w X.K X.am X.base h2 k af.f af.fd ps sp)(ab:ea g1 X.A)(az:gf X (e::ae) t)(ax:k<=g1:=by decide)(bL:gr X x:=by rfl)(jH:(x==("__debug__":Str))=false:=by decide)
  (a3:starEach (e::ae) X.env=(false,eval e X.env)::starEach ae X.env:=by rfl) (d2:(backTo pos (starEach ae X.env)).any (·.1)=false:=by rfl):a9 X (.Call (.Name x p) (e::ae) [] pos) (EM sp [] qr t):=
 XI a2 (ab.mono ax) bL hm af.F.et af.b .nil mY az jH a3 d2
def ae0 (af:dt X.K F2 ae1 st ps)(hm:X.am x=some (.ref C))(dU:jI X.K C af.f)(a2:fB X.prog X.w X.K X.am X.base h2 k af.f af.fd ps sp)(ab:ea g1 X.A)(az:gf X (e::ae) t)(ax:k+1<=g1:=by decide)(bL:gr X x:=by rfl)
  (jH:(x==("__debug__":Str))=false:=by decide) (a3:starEach (e::ae) X.env=(false,eval e X.env)::starEach ae X.env:=by rfl) (d2:(backTo pos (starEach ae X.env)).any (·.1)=false:=by rfl):
  a9 X (.Call (.Name x p) (e::ae) [] pos) (Aj C sp [] qr t):=xj dU a2 (ab.mono ax) bL hm af.b .nil mY az jH a3 d2
def ae2 (af:dt X.K F2 ae1 st ps)(hm:X.am x=some (.ref C))(dU:jI X.K C af.f)(a2:fB X.prog X.w X.K X.am X.base h2 k af.f af.fd ps sp)(ab:ea g1 X.A)(ax:k+1<=g1:=by decide)(bL:gr X x:=by rfl)
  (jH:(x==("__debug__":Str))=false:=by decide):a9 X (.Call (.Name x p) [] [] pos) (Aj C sp [] qr je):=XK dU a2 (ab.mono ax) bL hm af.b .nil mY jH
def md {g1:Nat}{m:Str}{C:Addr}{pl:Sem Bool}(af:dt X.K m cL st ps)(c:fo X.K C)(hm:Meth X.K C m af.f)(a2:fB X.prog X.w X.K X.am X.base h2 k af.f af.fd ps sp)(ab:ea g1 X.A)(a3:a9 X o bx)(az:gf X (e::ae) t)(ax:k<=g1:=by decide)
  (mG:starEach (e::ae) X.env=(false,eval e X.env)::starEach ae X.env:=by rfl) (d2:(backTo pos (starEach ae X.env)).any (·.1)=false:=by rfl)
  (a_:eval (.Call (.Attribute o m d1) (e::ae) [] pos) X.env=(do
   let eM<-eval o X.env
   standAt d1.atName
   let (f,first)<-holding [eM] (getMethod eM m pl)
   callWith pos f first (backTo pos (starEach (e::ae) X.env)) (backToKw pos (keywordEach [] X.env))):=by rfl):
  a9 X (.Call (.Attribute o m d1) (e::ae) [] pos) (Ai C m sp [] qr bx t):=EO a3 c hm a2 (ab.mono ax) af.b .nil mY az mG d2 a_
def kF {g1:Nat}{m:Str}{C:Addr}{pl:Sem Bool}(af:dt X.K m cL st ps)(c:fo X.K C)(hm:Meth X.K C m af.f)(a2:fB X.prog X.w X.K X.am X.base h2 k af.f af.fd ps sp)(ab:ea g1 X.A)(a3:a9 X o bx)(ax:k<=g1:=by decide)
  (a_:eval (.Call (.Attribute o m d1) [] [] pos) X.env=(do
   let eM<-eval o X.env
   standAt d1.atName
   let (f,first)<-holding [eM] (getMethod eM m pl)
   callWith pos f first (backTo pos (starEach [] X.env)) (backToKw pos (keywordEach [] X.env))):=by rfl):
  a9 X (.Call (.Attribute o m d1) [] [] pos) (Ai C m sp [] qr bx je):=XJ a3 c hm a2 (ab.mono ax) af.b .nil mY a_
def s1 (h:rF X e fc):kg X e fc:=λ ac s L H Q I hw=>h _ ac s L H Q I hw
inductive ae3(bx:TE)(L:ef.St)(H:aP)(Q:d7):Prop|mk (Q':d7):bx L H Q'->(∀v H1,Q' v H1->Q v H1)->ae3 bx L H Q
def v3 (h:a9 X e bx):a9 X e (ae3 bx):=λ ac s L H _ I ⟨Q',aK,hw⟩=>bC (h s L H Q' I aK) λ _ _ ⟨v,H1,a4,r,q⟩=>⟨v,H1,a4,r,hw v H1 q⟩
inductive ae4(bx:eX)(L:ef.St)(H:aP)(Q:List V->aP->Prop):Prop|mk (Q':List V->aP->Prop):bx L H Q'->(∀v H1,Q' v H1->Q v H1)->ae4 bx L H Q
def CO (h:gf X ae t):gf X ae (ae4 t):=λ pos ac s L H _ I ⟨Q',aK,hw⟩=>bC (h pos ac s L H Q' I aK) λ _ _ ⟨v,H1,a4,r,q⟩=>⟨v,H1,a4,r,hw v H1 q⟩
end
def bM (l:List Bytes):List V:=l.map λ b=>V.str (st b)
def e3.lG:Ld K T.da T.fi:=⟨T.bB,T.gN,T.ia,T.gO,T.oo,T.c4,T.oi,T.vN,T.yy⟩
abbrev ou (T:e3 K am)(H:aP)(a:Addr)(s:Sen):Prop:=j7 T.da H a s
def ov (aZ ci:Addr)(H:aP)(a:Addr)(ss:List Sen):Prop:=∃as,yN aZ ci H a as ss
abbrev fL (T:e3 K am)(H:aP)(a:Addr)(ss:List Sen):Prop:=ov T.da T.fi H a ss
def gA (H:aP)(l:Addr)(ss:List Sen):Prop:=∃as,H l=some (.lst (as.map V.ref))/\dg T.da H as ss
def ov.same (h:ov aZ ci H a ss)(k:aH H J):ov aZ ci J a ss:=let ⟨as,q⟩:=h;⟨as,q.same k⟩
def gA.same {T:e3 K am}(h:gA T H a ss)(k:aH H J):gA T J a ss:=let ⟨as,q,r⟩:=h;⟨as,k _ _ q,r.same k⟩
def ov.small (h:ov aZ ci H a ss):ss.length<=4096:=let ⟨as,dx,av,nd,fd,kvN,kvF,r⟩:=h;r.small
def eT (ss:List Sen)(f:Nat)(n:Bytes):Nat:=(numsOf ss f n).headD 0
def lj (ss:List Sen)(f:Nat)(n o:Bytes):Nat:=((bm (cH f n o) (nb ss)).map (·.1)).getD 0
def yT (ss)(f)(n):eT ss f n=((bm (cg f n) (nb ss)).map (·.1)).getD 0:=by unfold eT;rw[List.headD_eq_head?_getD,aeM]
def pD (h:x∈nb ss):1<=x.1:=M.Sa h
def yU:0<((bm p (nb ss)).map (·.1)).getD 0↔(bm p (nb ss)).isSome=true:=by
 cases e:bm p (nb ss) with
 |none=>simp
 |some x=>have:=pD (M.gM e).1;simp;omega
inductive CPj(aZ:Addr)(g:Sen->V)(Q:d7)(x:V)(H1:aP):Prop|mk a s:x=.ref a->j7 aZ H1 a s->Q (g s) H1->CPj aZ g Q x H1
def CP (aZ:Addr)(g:Sen->V)(bx:TE):TE:=λ L H Q=>bx L H (CPj aZ g Q)
inductive BT(p:Option V->Option V->Option V->Prop):Prop|i x y z:p x y z->BT p
inductive XL(f:Option V->Prop)(p q:Prop):Prop|i x:f x->p->q->XL f p q
inductive SZ(f:Option V->Prop)(p q r:Prop):Prop|i x:f x->p->q->r->SZ f p q r
section
variable{X:bE}{o e:Expr}{ae:List Expr}{bx:TE}{t:eX}{pos d1:Pos}{k:Nat}{sp:bA}{cL:Str}{it:Stmt}{ps:List Str}
def hL (c:fo X.K aZ)(n:fb X.K aZ "form")(h:a9 X o bx)(Y:attributeBase o "form" X.env (eval o X.env)=eval o X.env:=by rfl):a9 X (.Attribute o "form" pos) (CP aZ (λ s=>.int (ag s)) bx):=λ ac s L H Q I aK=>cZ (v3 h) Y s L H Q I ⟨_,aK,λ _ _ ⟨a,s,e,⟨dx,ae⟩,q⟩=>⟨a,_,dx,_,_,e,ae,c,n,Li s,q⟩⟩
def js (c:fo X.K aZ)(n:fb X.K aZ "about")(h:a9 X o bx)(Y:attributeBase o "about" X.env (eval o X.env)=eval o X.env:=by rfl):a9 X (.Attribute o "about" pos) (CP aZ (λ s=>.str (st (aF s))) bx):=λ ac s L H Q I aK=>cZ (v3 h) Y s L H Q I ⟨_,aK,λ _ _ ⟨a,s,e,⟨dx,ae⟩,q⟩=>⟨a,_,dx,_,_,e,ae,c,n,Lj s,q⟩⟩
def hM (c:fo X.K aZ)(n:fb X.K aZ "other")(h:a9 X o bx)(Y:attributeBase o "other" X.env (eval o X.env)=eval o X.env:=by rfl):a9 X (.Attribute o "other" pos) (CP aZ (λ s=>.str (st (aD s))) bx):=λ ac s L H Q I aK=>cZ (v3 h) Y s L H Q I ⟨_,aK,λ _ _ ⟨a,s,e,⟨dx,ae⟩,q⟩=>⟨a,_,dx,_,_,e,ae,c,n,Ts s,q⟩⟩
def s2 (c:fo X.K aZ)(n:fb X.K aZ "said")(h:a9 X o bx)(Y:attributeBase o "said" X.env (eval o X.env)=eval o X.env:=by rfl):a9 X (.Attribute o "said" pos) (CP aZ (λ s=>.int (bv s)) bx):=λ ac s L H Q I aK=>cZ (v3 h) Y s L H Q I ⟨_,aK,λ _ _ ⟨a,s,e,⟨dx,ae⟩,q⟩=>⟨a,_,dx,_,_,e,ae,c,n,aeN s,q⟩⟩
inductive ae5j(aZ:Addr)(ci:Addr)(sp:bA)(t:eX)(L:ef.St)(Q:d7)(x:V)(H1:aP):Prop|mk a:x=.ref a->(∃ss,ov aZ ci H1 a ss)->(t L H1 λ vs aE=>sp (x::(vs++[])) aE Q qr)->ae5j aZ ci sp t L Q x H1
def ae5 (aZ ci:Addr)(sp:bA)(bx:TE)(t:eX):TE:=λ L H Q=>bx L H (ae5j aZ ci sp t L Q)
def e4 {g1:Nat}{m:Str}{pl:Sem Bool}{aZ ci:Addr}(ni:fo X.K aZ)(qZ:fo X.K ci)(af:dt X.K m cL it ps)(hm:Meth X.K ci m af.f)(dK:∀av nd fd,(vY av nd fd).lookup m=none)(a2:fB X.prog X.w X.K X.am X.base h2 k af.f af.fd ps sp)(ab:ea g1 X.A)(a3:a9 X o bx)(az:gf X (e::ae) t)(ax:k<=g1:=by decide)
  (mG:starEach (e::ae) X.env=(false,eval e X.env)::starEach ae X.env:=by rfl) (d2:(backTo pos (starEach ae X.env)).any (·.1)=false:=by rfl)
  (a_:eval (.Call (.Attribute o m d1) (e::ae) [] pos) X.env=(do
   let eM<-eval o X.env
   standAt d1.atName
   let (f,first)<-holding [eM] (getMethod eM m pl)
   callWith pos f first (backTo pos (starEach (e::ae) X.env)) (backToKw pos (keywordEach [] X.env))):=by rfl):
  a9 X (.Call (.Attribute o m d1) (e::ae) [] pos) (ae5 aZ ci sp bx t):=
 λ ac s L H Q I aK=>EO (v3 a3) qZ hm a2 (ab.mono ax) af.b .nil mY az mG d2 a_ s L H Q I ⟨_,aK,λ _ _ ⟨a,e,⟨_,_,dx,av,nd,fd,_,_,R⟩,q⟩=>⟨a,dx,_,e,R.obj,dK _ _ _,q⟩⟩
inductive ae6j(aZ:Addr)(ci:Addr)(Q:d7)(x:V)(H1:aP):Prop|mk a as ss:x=.ref a->yN aZ ci H1 a as ss->(∀av,H1 av=some (.lst (as.map V.ref))->Q (.ref av) H1)->ae6j aZ ci Q x H1
def ae6 (aZ ci:Addr)(bx:TE):TE:=λ L H Q=>bx L H (ae6j aZ ci Q)
def yV (ni:fo X.K aZ)(qZ:fo X.K ci)(n:fb X.K ci "lines")(h:a9 X o bx)(Y:attributeBase o "lines" X.env (eval o X.env)=eval o X.env:=by rfl):a9 X (.Attribute o "lines" pos) (ae6 aZ ci bx):=λ ac s L H Q I aK=>cZ (v3 h) Y s L H Q I ⟨_,aK,λ _ _ ⟨a,_,_,e,⟨dx,av,_,_,_,_,R⟩,q⟩=>⟨a,_,dx,_,_,e,R.obj,qZ,n,CI _ _ _,q av R.lst⟩⟩
end
variable(ν:List V)(η:aP)(θ:d7)
inductive ae7:mD->Prop|mk{E}(a:Addr)(ss:List Sen)(n:Nat)(s:Sen):ν=[.ref a,.int (n:Int)]->fL T η a ss->(n,s)∈nb ss->(∀b,ou T η b s->θ (.ref b) η)->ae7 E
inductive ae8:mD->Prop|mk{E}(a:Addr)(ss:List Sen)(f:Nat)(n:Bytes):ν=[.ref a,.int (f:Int),.str (st n)]->fL T η a ss->(∀l J,aH η J->η l=none->J l=some (.lst (br (numsOf ss f n)))->θ (.ref l) J)->ae8 E
inductive ae9:mD->Prop|mk{E}(a:Addr)(ss:List Sen)(f:Nat)(n:Bytes):ν=[.ref a,.int (f:Int),.str (st n)]->fL T η a ss->(∀J,aH η J->θ (.int (eT ss f n:Nat)) J)->ae9 E
inductive afa:mD->Prop|mk{E}(a:Addr)(ss:List Sen)(f:Nat)(n o:Bytes):ν=[.ref a,.int (f:Int),.str (st n),.str (st o)]->fL T η a ss->(∀J,aH η J->θ (.int (lj ss f n o:Nat)) J)->afa E
inductive hl(H0:aP)(aZ ci:Addr)(H:aP)(a:Addr)(ss:List Sen):Prop|mk dx av nd fd kvN kvF as:q2 H0 aZ ci H a dx av nd fd kvN kvF as ss->hl H0 aZ ci H a ss
def hl.CQ (h:hl H0 aZ ci H a ss):ov aZ ci H a ss:=let ⟨dx,av,nd,fd,kvN,kvF,as,W⟩:=h;⟨as,dx,av,nd,fd,kvN,kvF,W.r⟩
def hl.base (h:hl H0 aZ ci H a ss):aH H0 H:=let ⟨dx,av,nd,fd,kvN,kvF,as,W⟩:=h;W.base
def hl.same (h:hl H0 aZ ci H a ss)(k:aH H J):hl H0 aZ ci J a ss:=let ⟨dx,av,nd,fd,kvN,kvF,as,W⟩:=h;⟨dx,av,nd,fd,kvN,kvF,as,W.same k⟩
def hl.less (h:hl H0 aZ ci H a ss)(k:aH H1 H0):hl H1 aZ ci H a ss:=let ⟨dx,av,nd,fd,kvN,kvF,as,W⟩:=h;⟨dx,av,nd,fd,kvN,kvF,as,W.r,k.trans W.base,k.free W.ol,k.free W.on,k.free W.of,λ f n l q=>k.free (W.q3 f n l q)⟩
def fB.weak (F:fB bI bJ K am bK CX k f fd ps sp)(h:∀vs H Q E,afb vs H Q E->sp vs H Q E):fB bI bJ K am bK CX k f fd ps afb:=⟨λ vs H Q E q=>F.len vs H Q E (h _ _ _ _ q),λ A outer s H args us vs Q E D G an aU q=>F.run A outer s H args us vs Q E D G an aU (h _ _ _ _ q)⟩
def afc:bA:=λ vs H Q _=>∃p dx l ss,vs=[.ref p,.ref l]/\H p=some (.ins T.fi dx [])/\gA T H l ss/\ss.length<=4096/\∀J,hl (λ b=>if b=p then none else H b) T.da T.fi J p ss->Q .b6 J
def afd:bA:=λ vs H Q _=>∃p dx l ss,vs=[.ref p,.ref l]/\H p=some (.ins T.fi dx [])/\gA T H l ss/\ss.length<=4096/\∀J,fL T J p ss->(∀b u,H b=some u->b≠p->J b=some u)->Q .b6 J
def q4:⇑7 1 T.lf (Lf T.da):=aeH T.lf.F T.lG
def TA:⇑7 1 T.sA (Tt T.da T.fi):=aeQ T.sA.F T.lG T.eu
def j9:⇑7 1 T.hI (ae7 T):=by
 refine bX T.hI.F ad5 λ _ _ _ _ h=>?_
 ·obtain⟨a,_,n,_,rfl,⟨_,dx,av,_,_,_,_,R⟩,aB,k⟩:=h;refine⟨z,λ _ _ _ _ _ _ _=>?_⟩;intro X;refine⟨_,(aN (a6 (hy jf (cZ (O 0) z) (e0 o4 (O 1) bc) (λ _ _=>rfl)))),?_⟩;obtain⟨i,ap,ao⟩:=M.aal aB;obtain⟨b,Y,au⟩:=R.kE.of ao;refine⟨_,z,a,_,dx,_,_,z,R.obj,T.c4,T.oi,CI _ _ _,_,z,_,_,z,z,av,_,_,_,z,z,aG.of R.lst,at_of (j:=i) (v:=V.ref b) (by have:n=i+1:=ap;omega) (by rw[d5,Y];rfl),?_⟩;exact k b au
def TB (R:vZ aZ ci H a dx av nd fd kvN kvF as ss)(k:aH H J)(f:Nat)(n)(ar:J p=some (.tup [.int (f:Int),.str (st n)])):
  (numsOf ss f n=[]/\dV J nd (.ref p) none)\/∃l,numsOf ss f n≠[]/\dV J nd (.ref p) (some (.ref l))/\J l=some (.lst (br (numsOf ss f n))):=by
 have g:=dV.t (k:=ic f n) (k _ _ R.num) ar;rcases R.q0 f n with⟨D,G⟩|⟨D,l,G,an⟩
 ·rw[G] at g;exact .inl ⟨D,g⟩
 ·rw[G] at g;exact .inr ⟨l,D,g,k _ _ an⟩
def Ln:⇑7 1 T.qI (ae8 T):=by
 refine bX T.qI.F ad6 λ _ _ _ _ h=>?_
 ·obtain⟨a,_,f,n,rfl,⟨_,dx,_,nd,_,kvN,_,R⟩,k⟩:=h;refine⟨z,λ _ _ _ _ _ a1 _=>?_⟩;intro X;refine⟨_,(aN (a6 (o7 X8 z T.CE boot_list (U (qo a1 (cZ (O 0) z) (gT (U (O 1) (U (O 2) ai))) (b_ ai) ⟨z,z,z,z⟩) ai)))),?_⟩;refine⟨_,z,a,_,dx,_,_,z,R.obj,T.c4,T.vN,Lh _ _ _,nd,z,.inr ⟨kvN,.inl R.num⟩,_,z,_,z,hv,λ p ar=>⟨cQ _,λ q aK=>?_⟩⟩;have al:=(bp (o:=.tup [.int (f:Int),.str (st n)]) ar);have aq:=al.trans (bp (o:=.lst []) aK);rcases TB (p:=p) R aq f n (bw aI (cy aI aK)) with⟨D,g⟩|⟨l,D,g,an⟩
  ·refine⟨_,g,q,[],z,.inl (aG.of aI),λ l ah=>?_⟩;exact k l _ (aq.trans (bp ah)) (aq.free ah) (by rw[D];exact aI)
  ·refine⟨_,g,l,_,z,.inl (aG.of an),λ iG ah=>?_⟩;exact k iG _ (aq.trans (bp ah)) (aq.free ah) aI
def nk:⇑7 1 T.jo (ae9 T):=by
 refine bX T.jo.F ad7 λ _ _ _ _ h=>?_
 ·obtain⟨a,ss,f,n,rfl,⟨_,dx,_,nd,_,kvN,_,R⟩,k⟩:=h;refine⟨z,λ _ _ _ _ _ a1 _=>?_⟩;intro X;refine⟨_,(aN (a6 (hy jf (qo a1 (cZ (O 0) z) (gT (U (O 1) (U (O 2) ai))) (b_ (U bc ai)) ⟨z,z,z,z⟩) bc (λ _ _=>rfl)))),?_⟩;refine⟨_,z,a,_,dx,_,_,z,R.obj,T.c4,T.vN,Lh _ _ _,nd,z,.inr ⟨kvN,.inl R.num⟩,_,z,_,z,hv,λ p ar=>⟨dY,λ q aK=>?_⟩⟩;have al:=(bp (o:=.tup [.int (f:Int),.str (st n)]) ar);have aq:=al.trans (bp (o:=.lst [.int 0]) aK);rcases TB (p:=p) R aq f n (bw aI (cy aI aK)) with⟨D,g⟩|⟨l,D,g,an⟩
  ·refine⟨_,g,q,_,_,_,z,z,aG.of aI,at_of (j:=0) z z,?_⟩;have e:(0:Int)=((eT ss f n:Nat):Int):=by unfold eT;rw[D];rfl
   have q1:=k _ aq;rw[<-e] at q1;exact q1
  ·refine⟨_,g,l,_,_,_,z,z,aG.of an,at_of (j:=0) (v:=.int ((eT ss f n:Nat):Int)) z ?_,k _ aq⟩;unfold eT;cases e:numsOf ss f n with
   |nil=>exact absurd e D
   |cons x r=>rfl
def Lo:⇑7 1 T.qJ (afa T):=by
 refine bX T.qJ.F ad8 λ _ _ _ _ h=>?_
 ·obtain⟨a,ss,f,n,o,rfl,⟨_,dx,_,_,fd,_,kvF,R⟩,k⟩:=h;refine⟨z,λ _ _ _ _ _ a1 _=>?_⟩;intro X;refine⟨_,(aN (a6 (qo a1 (cZ (O 0) z) (gT (U (O 1) (U (O 2) (U (O 3) ai)))) bc ⟨z,z,z,z⟩))),?_⟩;refine⟨_,z,a,_,dx,_,_,z,R.obj,T.c4,T.yy,Tr _ _ _,fd,z,.inr ⟨kvF,.inl R.fst⟩,_,z,_,z,_,z,i8,λ _ ar=>?_⟩;have al:=(bp (o:=.tup [.int (f:Int),.str (st n),.str (st o)]) ar);have g:=dV.t (k:=kD f n o) (al _ _ R.fst) aI;refine⟨_,g,?_⟩;have e:((b4 kvF (kD f n o)).getD (V.int 0))=.int ((lj ss f n o:Nat):Int):=by rw[R.yM];unfold lj;cases bm (cH f n o) (nb ss)<;>rfl
  rw[e];exact k _ al
def TC:⇑7 2 T.hk (afc T):=by
 refine bX T.hk.F S4 λ H _ _ _ h=>?_
 ·obtain⟨p,dx,l,ss,rfl,ar,⟨as,ah,a8⟩,_,k⟩:=h;refine⟨z,λ _ _ _ s ab _ _=>?_⟩;intro X;refine⟨_,(aJ (jd (O 0) (b_ ai) z) (aJ (jd (O 0) PX z) (aJ (jd (O 0) PX z) (aN (gs f1 z (eN (O 1)) (ib 2 S4.nd) (aN (eY (EO (O 0) T.c4 T.Cf (TA T) ab T.sA.b .nil mY (U (O 2) ai))))))))),?_⟩;refine⟨cQ _,λ av fw=>⟨_,z,p,_,dx,[],z,bw ar (cy ar fw),T.c4,T.oi,(by show 0<1000;decide),?_⟩⟩;generalize v1:upd (upd H av (.lst [])) p (.ins T.fi dx (hb "lines" (.ref av) []))=H1;have dR:H1 p=some (.ins T.fi dx [("lines",.ref av)]):=by rw[<-v1];exact aI
  have n0:H1 av=some (.lst []):=by rw[<-v1];exact bw aI (λ B=>(cy ar fw) B.symm)
  have f3:∀b u,H b=some u->b≠p->H1 b=some u:=λ b u e Y=>by rw[<-v1];exact bw (bp fw _ _ e) Y
  intro nd n3;refine⟨_,z,p,_,dx,_,z,bw dR (cy dR n3),T.c4,T.vN,(by show 1<1000;decide),?_⟩;generalize Lp:upd (upd H1 nd (.e7 [])) p (.ins T.fi dx (hb "numbers" (.ref nd) [("lines",.ref av)]))=aE;have kU:=cy dR n3;have fP:aE p=some (.ins T.fi dx [("lines",.ref av),("numbers",.ref nd)]):=by rw[<-Lp];exact aI
  have cp:aE nd=some (.e7 []):=by rw[<-Lp];exact bw aI (λ B=>kU B.symm)
  have cU:∀b u,H1 b=some u->b≠p->aE b=some u:=λ b u e Y=>by rw[<-Lp];exact bw (bp n3 _ _ e) Y
  intro fd v4;refine⟨_,z,p,_,dx,_,z,bw fP (cy fP v4),T.c4,T.yy,(by show 2<1000;decide),?_⟩;generalize k1:upd (upd aE fd (.e7 [])) p (.ins T.fi dx (hb "firsts" (.ref fd) [("lines",.ref av),("numbers",.ref nd)]))=bj;have Lq:=cy fP v4;have m':bj p=some (.ins T.fi dx (vY av nd fd)):=by rw[<-k1];exact aI
  have eh:bj fd=some (.e7 []):=by rw[<-k1];exact bw aI (λ B=>Lq B.symm)
  have f5:∀b u,aE b=some u->b≠p->bj b=some u:=λ b u e Y=>by rw[<-k1];exact bw (bp v4 _ _ e) Y
  have aQ:∀b u,H b=some u->b≠p->bj b=some u:=λ b u e Y=>f5 _ _ (cU _ _ (f3 _ _ e Y) Y) Y;have pl:=cy ar fw;have pb:=cU _ _ n0 (λ B=>pl B.symm);have od:=f5 _ _ pb (λ B=>pl B.symm);have dN:=f5 _ _ cp (λ B=>kU B.symm);have ow:∀c,c≠p->H1 c=none->H c=none:=λ c ak e=>by
   cases q:H c with
   |none=>rfl
   |some u=>rw[f3 _ _ q ak] at e;cases e
  have afe:∀c,c≠p->aE c=none->H c=none:=λ c ak e=>by
   cases q:H c with
   |none=>rfl
   |some u=>rw[cU _ _ (f3 _ _ q ak) ak] at e;cases e
  let H0:aP:=λ b=>if b=p then none else H b
  have aX:∀c,c≠p->H0 c=H c:=λ c ak=>ay ak;have aff:H0 p=none:=aA z;have ie:=cw ah ar ⇑3;have TD:q2 H0 T.da T.fi bj p dx av nd fd [] [] [] []:=by
   refine⟨⟨m',od,dN,eh,dg.nil,bG _,bG _,cQ _,(λ B=>by rw[B,cp] at v4;cases v4),λ f n=>.inl ⟨z,z⟩,λ f n _=>rfl⟩,?_,?_,?_,?_,λ f n l h=>by cases h⟩
   ·intro b u e;by_cases Y:b=p
    ·rw[Y,aff] at e;cases e
    ·rw[aX b Y] at e;exact aQ b u e Y
   ·rw[aX av (λ B=>pl B.symm)];exact fw
   ·rw[aX nd (λ B=>kU B.symm)];exact ow nd (λ B=>kU B.symm) n3
   ·rw[aX fd (λ B=>Lq B.symm)];exact afe fd (λ B=>Lq B.symm) v4
  have afg:∀{b s},j7 T.da H b s->j7 T.da H0 b s:=λ {b s}⟨afh,e⟩=>⟨afh,by rw[aX b (cw e ar (by intro B;injection B with _ _ uM;cases uM))];exact e⟩
  have me:H0 l=some (.lst (as.map V.ref)):=by rw[aX l ie];exact ah
  refine⟨_,z,l,z,⟨_,aG.of (TD.base _ _ me)⟩,ha (K:=K) (a:=l) (xs:=as.map V.ref) (λ i L J=>∃(v:Option V)(kvN kvF:List (List Key×V)),L=[some (.ref p),some (.ref l),v]/\q2 H0 T.da T.fi J p dx av nd fd kvN kvF (as.take i) (ss.take i))
   ⟨none,[],[],z,TD⟩ (λ i L J _ ⟨_,_,_,_,W⟩=>aG.of (W.base _ _ me)) ?_ ?_⟩
  ·rintro i _ L J aj ⟨v,kvN,kvF,rfl,W⟩;intro A;rw[d5] at aj;cases e:as[i]? with
   |none=>rw[e] at aj;cases aj
   |some b=>rw[e] at aj;cases aj;obtain⟨s,ae,au⟩:=a8.get e;have l7:i<ss.length:=(c_.mp ae).1;refine⟨_,z,p,dx,_,z,W.r.obj,z,_,z,H0,p,b,dx,av,nd,fd,kvN,kvF,_,_,s,z,W,(afg au).same W.base,(by rw[c5];omega),λ _ mc nj Lr=>?_⟩;refine⟨_,mc,nj,z,?_⟩;rw[D9,D9,e,ae];exact Lr
  ·rintro L J ⟨v,kvN,kvF,rfl,W⟩;rw[be,fy,a8.len,fy] at W;exact k J ⟨dx,av,nd,fd,kvN,kvF,as,W⟩
local macro_rules|`(tactic|omega)=>`(tactic|first|lia|omega +splitNatSub)
def afi:⇑7 2 T.hk (afd T):=fB.weak (TC T) λ _ _ _ _ ⟨p,dx,l,ss,e,D,G,an,k⟩=>⟨p,dx,l,ss,e,D,G,an,λ J W=>k J W.CQ λ b u e Y=>W.base b u ((ay Y).trans e)⟩
def fY (H1:aP)(af:Addr)(aY:Nat->List V)(i:Nat)(H:aP):Prop:=aH H1 H/\H af=some (.lst (aY i))
def fY.start (cr:H1 af=none)(h:aY 0=[]):fY H1 af aY 0 (upd H1 af (.lst [])):=⟨bp cr,by rw[h];exact aI⟩
def fY.step (h:fY H1 af aY i H)(cr:H1 af=none)(s:aH H b1)(e:aY (i+1)=aY i++[y])(hz:(aY i).length<sizeLine):
  ∃a,b1 af=some (.lst a)/\a.length<sizeLine/\fY H1 af aY (i+1) (upd b1 af (.lst (a++[y]))):=
 ⟨aY i,s _ _ h.2,hz,ev (h.1.trans s) cr,by rw[e];exact aI⟩
def fY.skip (h:fY H1 af aY i H)(s:aH H b1)(e:aY (i+1)=aY i):fY H1 af aY (i+1) b1:=⟨h.1.trans s,by rw[e];exact s _ _ h.2⟩
def lk {A ds:aP->Prop}(h:A H):PA L H (λ b bj=>if b=true then A bj else ds bj):=by
 show if true=true then A H else ds H
 rw[aA z];exact h
def s3 {i:Nat}(h:(br l)[i]?=some v):∃n,l[i]?=some n/\v=.int (n:Int):=by
 unfold br at h;rw[d5] at h;cases e:l[i]? with
 |none=>rw[e] at h;cases h
 |some n=>rw[e] at h;cases h;exact⟨n,z,z⟩
def jt {i:Nat}(h:(bM l)[i]?=some v):∃n,l[i]?=some n/\v=.str (st n):=by
 unfold bM at h;rw[d5] at h;cases e:l[i]? with
 |none=>rw[e] at h;cases h
 |some n=>rw[e] at h;cases h;exact⟨n,z,z⟩
def du (l):(br l).length=l.length:=be _
def fj (l):(bM l).length=l.length:=be _
def iH (l m):br (l++m)=br l++br m:=db
def pE (l m):bM (l++m)=bM l++bM m:=db
def eH {bO:Type}{l:List bO}{x:bO}(h:l[i]?=some x):l.take (i+1)=l.take i++[x]:=by rw[D9,h];rfl
def em (h:n<=4097):n<sizeLine:=kR h ⇑0
def gP (h:n<=4098):n<=sizeLine:=cK h ⇑0
def yW:(a7 (nb ss) f k=none/\eT ss f k=0)\/∃s,a7 (nb ss) f k=some (eT ss f k,aD s)/\0<eT ss f k/\(eT ss f k,s)∈nb ss/\ag s=f/\aF s=k:=by
 rw[yT];unfold a7;cases e:bm (cg f k) (nb ss) with
 |none=>exact .inl ⟨z,z⟩
 |some x=>obtain⟨D,G⟩:=M.gM e;obtain⟨an,aU⟩:=M.fK.mp G;exact .inr ⟨x.2,z,pD D,D,an,aU⟩
def pF (ss)(f)(k):(b' (nb ss) f k).length<=ss.length:=M.R' ss f k
def yX (h:x∈b' (nb ss) f k):∃s,(x.1,s)∈nb ss/\ag s=f/\aD s=x.2:=by obtain⟨s,D,G,an,_⟩:=M.ux _ _ _ x h;exact⟨s,D,G,an⟩
inductive afj:mD->Prop|mk{E}(a:Addr)(ss:List Sen)(f:Nat)(n:Bytes):ν=[.ref a,.int (f:Int),.str (st n)]->fL T η a ss->(∀l J,aH η J->η l=none->J l=some (.lst (br ((b' (nb ss) f n).map (·.1))))->θ (.ref l) J)->afj E
def ig (ss:List Sen)(f:Nat)(n g:Bytes):List Nat:=if n=g then[] else M.fq (b' (nb ss) f n) g
inductive afk:mD->Prop|mk{E}(a:Addr)(ss:List Sen)(f:Nat)(n g:Bytes):ν=[.ref a,.int (f:Int),.str (st n),.str (st g)]->fL T η a ss->(∀l J,aH η J->η l=none->J l=some (.lst (br (ig ss f n g)))->θ (.ref l) J)->afk E
inductive afl:mD->Prop|mk{E}(a:Addr)(ss:List Sen)(f:Nat)(n:Bytes):ν=[.ref a,.int (f:Int),.str (st n)]->fL T η a ss->(∀l J,aH η J->η l=none->J l=some (.lst (bM ((b' (nb ss) f n).map (·.2))))->θ (.ref l) J)->afl E
inductive afm:mD->Prop|mk{E}a ss n:ν=[.ref a,.str (st n)]->fL T η a ss->(∀l J,aH η J->η l=none->J l=some (.lst (bM (bF (nb ss) n)))->θ (.ref l) J)->afm E
def near (ss:List Sen)(f:Nat)(ks:List Bytes)(w:Bytes):Nat:=((ks.findSome? λ m=>bm (cH f m w) (nb ss)).map (·.1)).getD 0
inductive afn:mD->Prop|mk{E}(a l:Addr)(ss:List Sen)(f:Nat)(ks:List Bytes)(w:Bytes):ν=[.ref a,.int (f:Int),.ref l,.str (st w)]->fL T η a ss->η l=some (.lst (bM ks))->(∀J,aH η J->θ (.int (near ss f ks w:Nat)) J)->afn E
inductive afo:mD->Prop|mk{E}a ss k:ν=[.ref a,.str (st k)]->fL T η a ss->(∀J,aH η J->θ (.bg (M.fU (nb ss) k)) J)->afo E
inductive afp:mD->Prop|mk{E}(a:Addr)(ss:List Sen)(f:Nat)(k w:Bytes):ν=[.ref a,.int (f:Int),.str (st k),.str (st w)]->fL T η a ss->(∀J,aH η J->θ (.bg (M.isLet (nb ss) f k w)) J)->afp E
inductive afq:mD->Prop|mk{E}a ss k:ν=[.ref a,.str (st k)]->fL T η a ss->(∀J,aH η J->θ (.bg (M.d3 (nb ss) k)) J)->afq E
inductive afr:mD->Prop|mk{E}a ss t:ν=[.ref a,.str (st t)]->fL T η a ss->M.d3 (nb ss) t=true->(∀J,aH η J->θ (.str (st (M.cV (nb ss) t))) J)->afr E
inductive Fr(H:aP)(a l d:Addr)(ss:List Sen)(f:Nat)(n:Bytes)(m:Nat)(L:ef.St)(J:aP):Prop|i pre seen aw b:L=[some (.ref a),some (.int f),some (.str (st b)),some (.ref l),some (.ref d),some (.int (eT ss f b:Nat))]->aH H J->J l=some (.lst (br pre))->J d=some (.cT aw)->(∀c,(b4 aw (Sum.inr (st c))).isSome=decide (c∈seen))->aw.length<=seen.length->seen.Nodup->(∀c∈seen,c∈(nb ss).map λ y=>aF y.2)->m+seen.length=(nb ss).length+1->pre.length=seen.length->(b' (nb ss) f n).map (·.1)=pre++(M.up (a7 (nb ss) f) m seen b).map (·.1)->Fr H a l d ss f n m L J
def Ls:⇑7 2 T.qK (afj T):=by
 refine bX T.qK.F uV λ H _ Q _ h=>?_
 ·obtain⟨a,ss,f,n,rfl,aM,k⟩:=h;refine⟨z,λ _ _ _ _ ab a1 _=>?_⟩;intro X;refine⟨_,(aJ (bQ 3 uV.nd (b_ ai)) (aJ (bQ 4 uV.nd xB) (aJ (bQ 5 uV.nd (e4 T.bB T.c4 T.jo T.lh (λ _ _ _=>rfl) (nk T) ab (O 0) (U (O 1) (U (O 2) ai)))) (aJ (Ey f1 (s1 (z8 (b9 fO (O 5) bc (b7 _)) (z7 (w_ (Y2 a1 (O 2) (O 4)))))) (aJ (Fk a1 (O 4) (O 2) w9 z) (aJ (eY (fX hK (O 3) (U (O 5) ai))) (aJ (bQ 2 uV.nd (hM T.bB T.gO (e4 T.bB T.c4 T.hI T.iZ (λ _ _ _=>rfl) (j9 T) ab (O 0) (U (O 5) ai)))) (aN (bQ 5 uV.nd (e4 T.bB T.c4 T.jo T.lh (λ _ _ _=>rfl) (nk T) ab (O 0) (U (O 1) (U (O 2) ai))))))))) (aN (a6 (O 3))))))),?_⟩;refine⟨cQ _,λ l ah=>?_⟩;intro d hd;have al:aH H (upd H l (.lst [])):=bp ah;have aq:=al.trans (bp (o:=.cT []) hd);refine⟨_,z,a,z,⟨ss,aM.same aq⟩,_,z,_,z,a,ss,f,n,z,aM.same aq,λ _ aO=>?_⟩;have nl:=al.free hd;have ld:=cy aI hd;have pb:=aO _ _ (bw aI ld);have pa:=aO _ _ aI;have bR:=aM.small;have cD:(nb ss).length=ss.length:=M.kr _ _;refine⟨Fr H a l d ss f n,⟨_,[],[],[],n,z,aq.trans aO,pb,pa,λ c=>rfl,bG _,wL,λ c ak=>by simp at ak,z,z,z⟩,?_⟩
  rintro m L J ⟨pre,seen,aw,b,rfl,bh,p_,kV,pG,_,n3,TF,_,d2,v5⟩;have cY:(M.up (a7 (nb ss) f) m seen b)=[]->Q (.ref l) J:=λ e=>k l J bh ah (by rw[v5,e,dc,hr];exact p_);refine⟨_,z,_,_,z,z,_,z,bZ (λ D=>?_) (λ D=>?_)⟩
  ·refine⟨_,z,_,z,d,_,z,dV.k (k:=Sum.inr (st b)) kV,_,z,?_⟩;rw[pG b];have D:0<eT ss f b:=by simpa using D
   by_cases Y:b∈seen
   ·rw[dO Y];refine c7 ⟨_,z,cY (M.xQ _ Y)⟩
   ·rw[eA Y];refine df ?_;obtain⟨bD,ap,_,ao,_,_⟩:=(yW (ss:=ss) (f:=f) (k:=b)).resolve_left (λ B=>by omega);have TG:=M.QS ap;have jm:seen.length+1<=(nb ss).length:=by have:=M.QT (l:=b::seen) (m:=(nb ss).map λ y=>aF y.2) (i6.mpr ⟨Y,n3⟩) (λ c ak=>by rcases bN.mp ak with rfl|ak;exact TG;exact TF c ak);rw[be] at this;exact this
    obtain⟨cP,rfl⟩:∃cP,m=cP+1:=⟨m - 1,⇑1⟩;refine⟨λ cf i0=>∃afs,afs<cP+1/\_,λ cf i0 h=>h,?_⟩;have TH:b4 aw (Sum.inr (st b))=none:=by
     have:=pG b;rw[eA Y] at this;cases e:b4 aw (Sum.inr (st b)) with
     |none=>rfl
     |some v=>rw[e] at this;cases this
    refine⟨_,z,_,z,d,_,z,jP.k (k:=Sum.inr (st b)) kV (em ⇑1),?_⟩;have od:upd J d (.cT (putK aw (Sum.inr (st b)) (.bg true))) l=some (.lst (br pre)):=bw p_ (cw p_ kV ⇑3);have ck:aH H (upd J d (.cT (putK aw (Sum.inr (st b)) (.bg true)))):=ev bh nl;refine⟨_,z,.inl ⟨z,_,aG.of od⟩,_,z,l,_,_,z,z,od,(by rw[du];exact em ⇑1),?_⟩;have cm:=ev (o:=.lst (br pre++[.int (eT ss f b:Nat)])) ck ah;generalize yR:upd (upd J d (.cT (putK aw (Sum.inr (st b)) (.bg true)))) l (.lst (br pre++[.int (eT ss f b:Nat)]))=eO at cm;have aft:eO l=some (.lst (br (pre++[eT ss f b]))):=by rw[<-yR,iH];exact aI
    have afu:eO d=some (.cT (putK aw (Sum.inr (st b)) (.bg true))):=by rw[<-yR];exact bw aI (λ B=>ld B.symm)
    refine⟨_,z,a,z,⟨ss,aM.same cm⟩,_,z,a,ss,_,bD,z,aM.same cm,ao,λ c ak=>⟨c,bD,z,ak,?_⟩⟩;refine⟨_,z,a,z,⟨ss,aM.same cm⟩,_,z,_,z,a,ss,f,aD bD,z,aM.same cm,λ _ ei=>?_⟩;refine⟨cP,nF _,pre++[eT ss f b],b::seen,_,aD bD,z,cm.trans ei,ei _ _ aft,ei _ _ afu,?_,?_,i6.mpr ⟨Y,n3⟩,?_,by rw[cJ];omega,by simp[d2],?_⟩
    ·intro c;rw[sY TH];by_cases e:c=b
     ·subst e;rw[aA z];simp
     ·rw[ay (λ B=>e (jr (by injection B))),pG c];simp[e]
    ·rw[yO TH,cJ];omega
    ·intro c ak;rcases bN.mp ak with rfl|ak
     ·exact TG
     ·exact TF c ak
    ·rw[v5,M.qt _ Y ap,bU,iL];rfl
  ·refine c7 ⟨_,z,cY (M.r_ _ ?_)⟩;have D:¬ 0<eT ss f b:=by simpa using D
   rcases yW (ss:=ss) (f:=f) (k:=b) with⟨e,_⟩|⟨bD,_,e,_⟩;·exact e
   ·exact absurd e D
theorem TJ:∀{l:List (Nat×Bytes)}{i:Nat}{g:Bytes}{x:Nat×Bytes},(∀j y,j<i->l[j]?=some y->¬y.2=g)->l[i]?=some x->x.2=g->M.fq l g=(l.take (i+1)).map (·.1)
 |[],i,g,x,_,h,_=>by simp at h
 |y::l,0,g,x,_,h,e=>by have h:=eV h;subst h;rw[M.sb e];rfl
 |y::l,i+1,g,x,aB,h,e=>by have h:l[i]?=some x:=h;have ih:=TJ (l:=l) (i:=i) (g:=g) (x:=x) (λ j B _ hz=>aB (j+1) B ⇑1 hz) h e;rw[M.sc (aB 0 y ⇑1 z),ih,NU,bU,ay];rw[i5];intro B;have:i<l.length:=(c_.mp h).1;have:=congrArg List.length B;rw[c5,p4] at this;omega
def TK:⇑7 3 T.sB (afk T):=by
 refine bX T.sB.F Hl λ H _ _ _ h=>?_
 ·obtain⟨a,ss,f,n,g,rfl,aM,k⟩:=h;refine⟨z,λ _ _ _ _ ab _ _=>?_⟩;intro X;refine⟨_,(aJ (cb (b9 eG (O 2) (O 3) (b7 _)) (aN (a6 (b_ ai))) cj) (aJ (bQ 4 Hl.nd (b_ ai)) (aJ (gs f1 z (eN (bf T.qK T.yk (Ls T) ab (U (O 0) (U (O 1) (U (O 2) ai))))) (ib 5 Hl.nd) (aJ (eY (fX hK (O 4) (U (O 5) ai))) (aN (cb (b9 eG (hM T.bB T.gO (e4 T.bB T.c4 T.hI T.iZ (λ _ _ _=>rfl) (j9 T) ab (O 0) (U (O 5) ai))) (O 3) (b7 _)) (aN (a6 (O 4))) cj)))) (aN (a6 (b_ ai)))))),?_⟩;refine⟨_,z,_,z,z,_,z,bZ (λ D=>?_) (λ D=>?_)⟩
  ·have e:=jr (by have:=ge D;injection this);exact⟨cQ _,λ l ah=>k l _ (bp ah) ah (by unfold ig;rw[aA e];exact aI)⟩
  ·have e:¬n=g:=λ B=>D (by rw[B];simp);refine⟨cQ _,λ l ah=>?_⟩;have al:aH H (upd H l (.lst [])):=bp ah;refine⟨_,z,_,z,_,z,a,ss,f,n,z,aM.same al,λ b _ aq afv Y=>?_⟩;have CR:=pF ss f n;have Lu:=aM.small;have pc:=cy aI afv;refine⟨b,z,⟨_,aG.of Y⟩,ha (K:=K) (a:=b) (xs:=br ((b' (nb ss) f n).map (·.1))) (λ i L J=>SZ (λ v=>L=[some (.ref a),some (.int f),some (.str (st n)),some (.str (st g)),some (.ref l),v]) (aH H J) (J l=some (.lst (br (((b' (nb ss) f n).take i).map (·.1))))) (J b=some (.lst (br ((b' (nb ss) f n).map (·.1))))/\∀j y,j<i->(b' (nb ss) f n)[j]?=some y->¬y.2=g)) ⟨none,z,al.trans aq,aq _ _ aI,Y,λ j y a0=>absurd a0 (p5 _)⟩ (λ i L J _ ⟨_,_,_,_,q,_⟩=>aG.of q) ?_ ?_⟩
   ·rintro i y L J aj ⟨v,rfl,aO,ie,q5,dK⟩;intro A;obtain⟨_,aB,rfl⟩:=s3 aj;rw[d5] at aB;cases ex:(b' (nb ss) f n)[i]? with
    |none=>rw[ex] at aB;cases aB
    |some x=>
     rw[ex] at aB;cases aB;obtain⟨bD,a',_,bn⟩:=yX (gc ex);have afw:(((b' (nb ss) f n).take i).map (·.1)).length<=4096:=by rw[be,c5];omega
     refine⟨_,z,.inl ⟨z,_,aG.of ie⟩,_,z,l,_,_,z,z,ie,(by rw[du];exact em (Oa afw)),?_⟩;have bh:=ev (o:=.lst (br (((b' (nb ss) f n).take i).map (·.1))++[.int (x.1:Int)])) aO ah;have pC:upd J l (.lst (br (((b' (nb ss) f n).take i).map (·.1))++[.int (x.1:Int)])) l=some (.lst (br (((b' (nb ss) f n).take (i+1)).map (·.1)))):=by rw[aI,eH ex,db,iH];rfl
     refine⟨_,z,a,z,⟨ss,aM.same bh⟩,_,z,a,ss,_,bD,z,aM.same bh,a',λ c ak=>⟨c,bD,z,ak,_,z,z,_,z,bZ (λ G=>?_) (λ G=>?_)⟩⟩
     ·have ao:=jr (by have:=ge G;injection this);refine⟨_,z,k l _ bh ah ?_⟩;unfold ig;rw[ay e,TJ dK ex (by rw[<-bn];exact ao)];exact pC
     ·have ao:¬aD bD=g:=λ B=>G (by show decide (V.str (st (aD bD))=V.str (st g))=true;rw[B];simp);refine⟨_,z,bh,pC,bw q5 (λ B=>pc B.symm),λ j y a0 aC=>?_⟩;by_cases q:j=i
      ·subst q;rw[ex] at aC;cases aC;rw[<-bn];exact ao
      ·exact dK j y ⇑1 aC
   ·rintro L J ⟨v,rfl,aO,ie,q5,dK⟩;refine⟨cQ _,λ iG p_=>k iG _ (aO.trans (bp p_)) (aO.free p_) ?_⟩;unfold ig;rw[ay e,M.xS.mpr λ hm=>?_]
    ·exact aI
    ·obtain⟨y,aC,bz⟩:=cd.mp hm;obtain⟨j,a0⟩:=jz aC;refine dK j y ?_ a0 bz;rw[du,be];exact(c_.mp a0).1
def TL:⇑7 3 T.sC (afl T):=by
 refine bX T.sC.F Hn λ _ _ _ _ h=>?_
 ·obtain⟨a,ss,f,n,rfl,aM,k⟩:=h;refine⟨z,λ _ _ _ _ ab _ _=>?_⟩;intro X;refine⟨_,(aN (a6 (jg z Hn.nd (eN (bf T.qK T.yk (Ls T) ab (U (O 0) (U (O 1) (U (O 2) ai))))) (hB (own:=[("number",3)]) z) (λ _ _ _ _ _=>(ib 3 Hn.nd)) (λ _ _ _ _ _=>k0) (λ _ _ _ _ _=>(hM T.bB T.gO (e4 T.bB T.c4 T.hI T.iZ (λ _ _ _=>rfl) (j9 T) ab (O 0) (U (O 3) ai))))))),?_⟩;refine⟨_,z,_,z,_,z,a,ss,f,n,z,aM,λ b aE aq _ Y=>⟨b,z,⟨_,aG.of Y⟩,λ af cr=>?_⟩⟩;have CR:=pF ss f n;have Lu:=aM.small;refine km (K:=K) (a:=b) (xs:=br ((b' (nb ss) f n).map (·.1))) (fY aE af λ i=>bM (((b' (nb ss) f n).take i).map (·.2))) (.start cr z) (λ i J _ h=>aG.of (h.1 _ _ Y)) ?_ ?_
  ·rintro i x J aj h;obtain⟨_,aB,rfl⟩:=s3 aj;rw[d5] at aB;cases ex:(b' (nb ss) f n)[i]? with
   |none=>rw[ex] at aB;cases aB
   |some x=>
    rw[ex] at aB;cases aB;obtain⟨bD,a',_,bn⟩:=yX (gc ex);have aO:=aq.trans h.1;refine⟨z,lk ⟨_,z,a,z,⟨ss,aM.same aO⟩,_,z,a,ss,_,bD,z,aM.same aO,a',λ c ak=>⟨c,bD,z,ak,h.step cr (aH.refl _) ?_ ?_⟩⟩⟩
    ·show bM (((b' (nb ss) f n).take (i+1)).map (·.2))=_;rw[eH ex,db,pE];rw[bn];rfl
    ·rw[fj,be,c5];exact em ⇑1
  ·rintro J ⟨D,G⟩;refine k af J (aq.trans D) (aq.free cr) ?_;rw[G,du,be];dsimp only;rw[fy]
def ox:⇑7 4 T.j4 (afm T):=by
 refine bX T.j4.F ad9 λ H _ _ _ h=>?_
 ·obtain⟨a,ss,n,rfl,aM,k⟩:=h;refine⟨z,λ _ _ _ _ ab _ _=>?_⟩;intro X;refine⟨_,(aN (a6 (e0 jL (b_ (U (O 1) ai)) (bf T.sC T.B4 (TL T) ab (U (O 0) (U (b5 T.ot) (U (O 1) ai))))))),?_⟩;refine⟨_,z,dY,λ p ar=>?_⟩;have al:aH H (upd H p (.lst [.str (st n)])):=bp ar;refine⟨_,z,_,z,a,ss,2,n,z,aM.same al,λ l _ aq _ ah=>?_⟩;have CR:=pF ss 2 n;have Lu:=aM.small;refine⟨p,l,_,_,z,z,aq _ _ aI,ah,(by rw[fj,be];exact gP (by simp;omega)),λ q aK=>?_⟩;exact k q _ ((al.trans aq).trans (bp aK)) ((al.trans aq).free aK) aI
def Lv:⇑7 2 T.qL (afn T):=by
 refine bX T.qL.F Hq λ H _ _ _ h=>?_
 ·obtain⟨a,l,ss,f,ks,w,rfl,aM,ah,k⟩:=h;refine⟨z,λ _ _ _ _ ab _ _=>?_⟩;intro X;refine⟨_,(aJ (gs f1 z (eN (O 2)) (ib 4 Hq.nd) (aJ (bQ 5 Hq.nd (e4 T.bB T.c4 T.qJ T.yA (λ _ _ _=>rfl) (Lo T) ab (O 0) (U (O 1) (U (O 4) (U (O 3) ai))))) (aN (cb (b9 fO (O 5) bc (b7 _)) (aN (a6 (O 5))) cj)))) (aN (a6 bc))),?_⟩;refine⟨_,z,l,z,⟨_,aG.of ah⟩,ha (K:=K) (a:=l) (xs:=bM ks) (λ i L J=>∃dE,XL (λ e5=>L=[some (.ref a),some (.int f),some (.ref l),some (.str (st w)),dE,e5]) (aH H J) (∀j m,j<i->ks[j]?=some m->bm (cH f m w) (nb ss)=none)) ⟨none,none,z,aH.refl _,λ j m a0=>absurd a0 (p5 _)⟩ (λ i L J _ ⟨_,_,_,al,_⟩=>aG.of (al _ _ ah)) ?_ ?_⟩
  ·rintro i _ L J aj ⟨dE,e5,rfl,al,dK⟩;intro A;obtain⟨m,hm,rfl⟩:=jt aj;refine⟨_,z,a,z,⟨ss,aM.same al⟩,_,z,_,z,_,z,a,ss,f,m,w,z,aM.same al,λ aE aq=>⟨_,z,_,_,z,z,_,z,bZ (λ D=>?_) (λ D=>?_)⟩⟩
   ·have D:0<lj ss f m w:=by simpa using D
    refine⟨_,z,?_⟩;have e:near ss f ks w=lj ss f m w:=by
     unfold near lj;congr 2;have au:=yU.mp D;obtain⟨x,aa⟩:=jy.mp au;rw[aa,zx];refine⟨ks.take i,m,ks.drop (i+1),?_,aa,λ cP sj=>?_⟩;·rw[<-(c_.mp hm).2,<-ny,oM]
     ·obtain⟨j,a0⟩:=jz sj;have pH:=(c_.mp a0).1;rw[c5] at pH;rw[ts,aA ⇑1] at a0;exact dK j cP ⇑1 a0
    rw[<-e];exact k aE (al.trans aq)
   ·have D:¬ 0<lj ss f m w:=by simpa using D
    refine⟨_,_,z,al.trans aq,λ j cP a0 sj=>?_⟩;by_cases q:j=i
    ·subst q;rw[hm] at sj;cases sj;cases e:bm (cH f m w) (nb ss) with
     |none=>rfl
     |some x=>exact absurd (yU.mpr (by rw[e];rfl)) D
    ·exact dK j cP ⇑1 sj
  ·rintro L J ⟨dE,e5,rfl,al,dK⟩;have e:near ss f ks w=0:=by
    unfold near;rw[tj.mpr λ m hm=>?_];·rfl
    ·obtain⟨j,a0⟩:=jz hm;exact dK j m (by rw[fj];exact(c_.mp a0).1) a0
   have:=k J al;rw[e] at this;exact this
def Lw (ss)(f)(n):decide ((0:Int)<(eT ss f n:Nat))=(bm (cg f n) (nb ss)).isSome:=by rw[yT,eW,<-yU];simp
def CS:⇑7 2 T.pv (afo T):=by
 refine bX T.pv.F aea λ H _ Q _ h=>?_
 ·obtain⟨a,ss,n,rfl,aM,k⟩:=h;refine⟨z,λ _ _ _ _ ab _ _=>?_⟩;intro X;refine⟨_,(aN (a6 (Et (hX fO (e4 T.bB T.c4 T.jo T.lh (λ _ _ _=>rfl) (nk T) ab (O 0) (U (b5 T.sR) (U (O 1) ai))) bc (b7 _)) (nN (hX fO (e4 T.bB T.c4 T.jo T.lh (λ _ _ _=>rfl) (nk T) ab (O 0) (U (b5 T.ot) (U (O 1) ai))) bc (b7 _)))))),?_⟩;refine⟨_,z,a,z,⟨ss,aM⟩,_,z,a,ss,1,n,z,aM,λ H1 al=>⟨_,_,z,z,_,z,?_⟩⟩;have aQ:∀J,aH H J->Q (.bg ((bm (cg 1 n) (nb ss)).isSome||(bm (cg 2 n) (nb ss)).isSome)) J:=k;rw[Lw];cases ap:(bm (cg 1 n) (nb ss)).isSome with
  |true=>refine df ?_;rw[ap] at aQ;exact aQ H1 al
  |false=>refine c7 ⟨_,z,a,z,⟨ss,aM.same al⟩,_,z,a,ss,2,n,z,aM.same al,λ aE aq=>⟨_,_,z,z,?_⟩⟩;rw[ap] at aQ;dsimp only;rw[Lw];exact aQ aE (al.trans aq)
def CT:⇑7 2 T.pw (afq T):=by
 refine bX T.pw.F aec λ _ _ _ _ h=>?_
 ·obtain⟨a,ss,n,rfl,aM,k⟩:=h;refine⟨z,λ _ _ _ _ ab _ _=>?_⟩;intro X;refine⟨_,(aN (a6 (hX fO (e4 T.bB T.c4 T.jo T.lh (λ _ _ _=>rfl) (nk T) ab (O 0) (U (b5 T.mb) (U (O 1) ai))) bc (b7 _)))),?_⟩;refine⟨_,z,a,z,⟨ss,aM⟩,_,z,a,ss,5,n,z,aM,λ H1 al=>⟨_,_,z,z,?_⟩⟩;dsimp only;rw[Lw];exact k H1 al
def s4:⇑7 2 T.ma (afr T):=by
 refine bX T.ma.F aed λ _ _ _ _ h=>?_
 ·obtain⟨a,ss,n,rfl,aM,ax,k⟩:=h;refine⟨z,λ _ _ _ _ ab _ _=>?_⟩;intro X;refine⟨_,(aN (a6 (hM T.bB T.gO (e4 T.bB T.c4 T.hI T.iZ (λ _ _ _=>rfl) (j9 T) ab (O 0) (U (e4 T.bB T.c4 T.jo T.lh (λ _ _ _=>rfl) (nk T) ab (O 0) (U (b5 T.mb) (U (O 1) ai))) ai))))),?_⟩;rcases yW (ss:=ss) (f:=5) (k:=n) with⟨e,_⟩|⟨bD,ap,_,ao,bz,fe⟩
  ·unfold M.d3 at ax;unfold a7 at e;rw[tl] at e;rw[e] at ax;cases ax
  ·refine⟨_,z,a,z,⟨ss,aM⟩,_,z,a,z,⟨ss,aM⟩,_,z,a,ss,5,n,z,aM,λ H1 al=>⟨a,ss,_,bD,z,aM.same al,ao,λ b Y=>⟨b,bD,z,Y,?_⟩⟩⟩;have:M.cV (nb ss) n=aD bD:=by unfold M.cV;rw[ap]
   dsimp only;rw[<-this];exact k H1 al
def afx (ss)(f)(k w):decide ((0:Int)<(near ss f (bF (nb ss) k) w:Nat))=M.isLet (nb ss) f k w:=by
 unfold near M.isLet;rw[eW];cases e:(bF (nb ss) k).findSome? λ m=>bm (cH f m w) (nb ss) with
 |none=>
  have:=tj.mp e;simp only[zz,DU,fG,hS];constructor;·intro h;simp at h
  ·rintro⟨m,hm,h⟩;rw[this m hm] at h;cases h
 |some x=>
  obtain⟨m,hm,aa⟩:=mq e;have:=pD (M.gM aa).1;simp only[oQ,Option.getD_some,fG,hS];constructor;·intro _;exact⟨m,hm,by rw[aa];rfl⟩
  ·intro _;omega
def Lx:⇑7 5 T.qN (afp T):=by
 refine bX T.qN.F aeb λ _ _ _ _ h=>?_
 ·obtain⟨a,ss,f,n,w,rfl,aM,k⟩:=h;refine⟨z,λ _ _ _ _ ab _ _=>?_⟩;intro X;refine⟨_,(aN (a6 (hX fO (bf T.qL T.yl (Lv T) ab (U (O 0) (U (O 1) (U (bf T.j4 T.l' (ox T) ab (U (O 0) (U (O 2) ai))) (U (O 3) ai))))) bc (b7 _)))),?_⟩;refine⟨_,z,_,z,_,z,_,z,a,ss,n,z,aM,λ l _ al _ ah=>⟨_,z,a,l,ss,f,_,w,z,aM.same al,ah,λ aE aq=>⟨_,_,z,z,?_⟩⟩⟩;dsimp only;rw[afx];exact k aE (al.trans aq)
section
variable{X:bE}{x y B:Str}{CU ue afy pos:Pos}{TM i j m:Nat}
def CV {K:Frag}(fA:X.K=K):gt X (compareOp .In) (Pn K false):=by subst fA;exact mP
def afz {K:Frag}(fA:X.K=K):jF X (.builtin "len") (LN K):=by subst fA;exact fJ
def v6 {K:Frag}(fA:X.K=K)(ak:X.calm=true)(d6:X.N.Nodup)(aj:X.N[i]?=some x)(a0:X.N[j]?=some y)(aa:Loc X.env.scope x)(aC:Loc X.env.scope y)(jK:X.fn x=true\/X.env.scope.names.lookup x=some .local)(xn:X.fn y=true\/X.env.scope.names.lookup y=some .local):
  lH X (.Tuple [.Name x CU,.Name y ue] TM pos) (Ex K 2 (tT (mF i) (tT (mF j) Ew))):=by subst fA;exact OQ ak (xe (gF d6 aj aa jK) (xe (gF d6 a0 aC xn) OP))
def TN {K:Frag}(fA:X.K=K)(ak:X.calm=true)(d6:X.N.Nodup)(aj:X.N[i]?=some x)(a0:X.N[j]?=some y)(hm:X.N[m]?=some B)(aa:Loc X.env.scope x)(aC:Loc X.env.scope y)(hz:Loc X.env.scope B)(jK:X.fn x=true\/X.env.scope.names.lookup x=some .local)(xn:X.fn y=true\/X.env.scope.names.lookup y=some .local)(A8:X.fn B=true\/X.env.scope.names.lookup B=some .local):
  lH X (.Tuple [.Name x CU,.Name y ue,.Name B afy] TM pos) (Ex K 3 (tT (mF i) (tT (mF j) (tT (mF m) Ew)))):=by subst fA;exact OQ ak (xe (gF d6 aj aa jK) (xe (gF d6 a0 aC xn) (xe (gF d6 hm hz A8) OP)))
end
def Ly (ca:H x=none)(cp:H dx=none)(k:∀b u,upd (upd H dx (.own x)) x (.ins C dx []) b=some u->b≠x->J b=some u):aH H J:=λ b u e=>by have D:=cy e ca;exact k b u (bw (bw e (cy e cp)) D) D
def CW (aZ:Addr)(H:aP)(l:Addr)(ss:List Sen):Prop:=∃as,H l=some (.lst (as.map V.ref))/\dg aZ H as ss
def TO (aZ ci:Addr):bA:=λ vs H Q _=>∃p dx l ss,vs=[.ref p,.ref l]/\H p=some (.ins ci dx [])/\CW aZ H l ss/\ss.length<=4096/\∀J,ov aZ ci J p ss->(∀b u,H b=some u->b≠p->J b=some u)->Q .b6 J
inductive afAj(aZ:Addr)(ci:Addr)(Q:d7)(vs:List V)(H1:aP):Prop|mk l ss:vs=[.ref l]->CW aZ H1 l ss->ss.length<=4096->(∀p J,aH H1 J->H1 p=none->ov aZ ci J p ss->Q (.ref p) J)->afAj aZ ci Q vs H1
def afA (aZ ci:Addr)(t:eX):TE:=λ L H Q=>t L H (afAj aZ ci Q)
def yY (s:Int)(hN jn:Nat):List (Str×V):=[("said",.int s),("how",.int (hN:Int)),("source",.int (jn:Int))]
def yZ (ll:Addr)(H:aP)(b:Addr)(s:Int)(hN jn:Nat):Prop:=∃dx,H b=some (.ins ll dx (yY s hN jn))
def yZ.same (h:yZ ll H b s hN jn)(k:aH H J):yZ ll J b s hN jn:=let ⟨dx,e⟩:=h;⟨dx,k _ _ e⟩
inductive TP(ll:Addr)(vs:List V)(H:aP)(Q:d7)(E:mD):Prop|mk (p dx:Addr)(s:Int)(hN jn:Nat):vs=[.ref p,.int s,.int (hN:Int),.int (jn:Int)]->H p=some (.ins ll dx [])->(∀J:aP,J p=some (.ins ll dx (yY s hN jn))->(∀b u,H b=some u->b≠p->J b=some u)->Q .b6 J)->TP ll vs H Q E
inductive afBj(ll:Addr)(Q:d7)(vs:List V)(H1:aP):Prop|mk (s:Int)(hN jn:Nat):vs=[.int s,.int (hN:Int),.int (jn:Int)]->(∀p J,aH H1 J->H1 p=none->yZ ll J p s hN jn->Q (.ref p) J)->afBj ll Q vs H1
def afB (ll:Addr)(t:eX):TE:=λ L H Q=>t L H (afBj ll Q)
inductive TQj(aZ:Addr)(Q:d7)(vs:List V)(H1:aP):Prop|mk f a o n:vs=[.int f,.str a,.str o,.int n]->(∀p dx J,aH H1 J->H1 p=none->J p=some (.ins aZ dx (vX f a o n))->Q (.ref p) J)->TQj aZ Q vs H1
def TQ (aZ:Addr)(t:eX):TE:=λ L H Q=>t L H (TQj aZ Q)
section
variable{X:bE}{aZ ci ll:Addr}{x cL:Str}{it:Stmt}{ps:List Str}{k:Nat}{e:Expr}{ae:List Expr}{t:eX}{p pos:Pos}
def mf (af:dt X.K x cL it ps)(hm:X.am "Told"=some (.ref ci))(dU:jI X.K ci af.f)(a2:fB X.prog X.w X.K X.am X.base h2 k af.f af.fd ps (TO aZ ci))(ab:ea g1 X.A)(az:gf X (e::ae) t)(ax:k+1<=g1:=by decide)(bL:gr X "Told":=by rfl)
  (a3:starEach (e::ae) X.env=(false,eval e X.env)::starEach ae X.env:=by rfl) (d2:(backTo pos (starEach ae X.env)).any (·.1)=false:=by rfl):a9 X (.Call (.Name "Told" p) (e::ae) [] pos) (afA aZ ci t):=
 λ ac s L H Q I aK=>xj dU a2 (ab.mono ax) bL hm af.b .nil mY (CO az) ⇑0 a3 d2 s L H Q I ⟨_,aK,λ _ H1 ⟨l,ss,e,⟨as,D,G⟩,ah,q⟩ x dx ca cp _=>by subst e;have pI:aH H1 (upd (upd H1 dx (.own x)) x (.ins ci dx [])):=λ b _ e=>bw (bw e (cy e cp)) (cy e ca);exact⟨x,dx,l,ss,z,aI,⟨as,pI _ _ D,G.same pI⟩,ah,λ J aM aQ=>⟨z,q x J (Ly ca cp aQ) ca aM⟩⟩⟩
def TR (af:dt X.K x cL it ps)(hm:X.am "Held"=some (.ref ll))(dU:jI X.K ll af.f)(a2:fB X.prog X.w X.K X.am X.base h2 k af.f af.fd ps (TP ll))(ab:ea g1 X.A)(az:gf X (e::ae) t)(ax:k+1<=g1:=by decide)(bL:gr X "Held":=by rfl)
  (a3:starEach (e::ae) X.env=(false,eval e X.env)::starEach ae X.env:=by rfl) (d2:(backTo pos (starEach ae X.env)).any (·.1)=false:=by rfl):a9 X (.Call (.Name "Held" p) (e::ae) [] pos) (afB ll t):=
 λ ac s L H Q I aK=>xj dU a2 (ab.mono ax) bL hm af.b .nil mY (CO az) ⇑0 a3 d2 s L H Q I ⟨_,aK,λ _ _ ⟨s,hN,jn,e,q⟩ x dx ca cp _=>by subst e;exact⟨x,dx,s,hN,jn,z,aI,λ J D aQ=>⟨z,q x J (Ly ca cp aQ) ca ⟨dx,D⟩⟩⟩⟩
def q6 (af:dt X.K x cL it ps)(hm:X.am "Sentence"=some (.ref aZ))(dU:jI X.K aZ af.f)(a2:fB X.prog X.w X.K X.am X.base h2 k af.f af.fd ps (Lf aZ))(ab:ea g1 X.A)(az:gf X (e::ae) t)(ax:k+1<=g1:=by decide)(bL:gr X "Sentence":=by rfl)
  (a3:starEach (e::ae) X.env=(false,eval e X.env)::starEach ae X.env:=by rfl) (d2:(backTo pos (starEach ae X.env)).any (·.1)=false:=by rfl):a9 X (.Call (.Name "Sentence" p) (e::ae) [] pos) (TQ aZ t):=
 λ ac s L H Q I aK=>xj dU a2 (ab.mono ax) bL hm af.b .nil mY (CO az) ⇑0 a3 d2 s L H Q I ⟨_,aK,λ _ _ ⟨f,a,o,n,e,q⟩ x dx ca cp _=>by subst e;exact⟨x,dx,f,a,o,n,z,aI,λ J D aQ=>⟨z,q x dx J (Ly ca cp aQ) ca D⟩⟩⟩
end
def oy {a:Nat}(b:Nat):decide (V.int (a:Int)=V.int (b:Int))=true↔a=b:=by
 rw[fG];constructor;·intro h;injection h with h;omega
 ·intro h;rw[h]
def q7:eb (.int a) [.int b,.int c]=true↔a=b\/a=c:=by simp only[eb,jC,List.any_nil,qzz,zQ,jB,d_];constructor<;>(intro h;rcases h with h|h;exact .inl h.symm;exact .inr h.symm)
def CY:eb (.int a) [.int b,.int c,.int d]=true↔a=b\/a=c\/a=d:=by
 simp only[eb,jC,List.any_nil,qzz,zQ,jB,d_];constructor;·rintro(h|h|h);exact .inl h.symm;exact .inr (Or.inl h.symm);exact .inr (Or.inr h.symm)
 ·rintro(h|h|h);exact .inl h.symm;exact .inr (Or.inl h.symm);exact .inr (Or.inr h.symm)
def dD.i1 (h:dD K a xs):dh K H a xs:=.inr h
inductive afC:mD->Prop|mk{E}a b ss s:ν=[.ref a,.ref b]->fL T η a ss->ou T η b s->(∀J,aH η J->θ (.bg (M.iz (nb ss) s)) J)->afC E
inductive afD:mD->Prop|mk{E}l ss:ν=[.ref l]->gA T η l ss->ss.length<=4096->(∀r J,aH η J->η r=none->J r=some (.lst (br (M.m2 ss)))->θ (.ref r) J)->afD E
def afE (s):1<=ag s/\ag s<=11:=by cases s<;>simp[ag]
def mg:⇑7 2 T.hk (TO T.da T.fi):=afi T
def afF:⇑7 6 T.u5 (afC T):=by
 refine bX T.u5.F S6 λ H _ _ _ h=>?_
 ·obtain⟨a,b,ss,s,rfl,aM,a8,k⟩:=h;refine⟨z,λ _ _ _ _ ab _ _=>?_⟩;intro X;refine⟨_,(aJ (cb (b9 eG (hL T.bB T.gN (O 1)) (b5 T.sR) (b7 _)) (aN (a6 w9)) cj) (aJ (cb (b9 mP (hL T.bB T.gN (O 1)) (gT (U (b5 T.ot) (U (b5 T.mb) ai))) z) (aN (a6 (bf T.pv T.u3 (CS T) ab (U (O 0) (U (hM T.bB T.gO (O 1)) ai))))) cj) (aJ (cb (b9 mP (hL T.bB T.gN (O 1)) (gT (U (b5 T.sS) (U (b5 T.sT) ai))) z) (aN (a6 (bf T.pv T.u3 (CS T) ab (U (O 0) (U (js T.bB T.ia (O 1)) ai))))) cj) (aJ (cb (b9 eG (hL T.bB T.gN (O 1)) (b5 T.sV) (b7 _)) (aN (a6 (rI (bf T.pw T.u4 (CT T) ab (U (O 0) (U (js T.bB T.ia (O 1)) ai))) (nN (bf T.pw T.u4 (CT T) ab (U (O 0) (U (hM T.bB T.gO (O 1)) ai))))))) cj) (aJ (bQ 2 S6.nd (uK (li T.Cj) (hL T.bB T.gN (O 1)) (λ _ _=>rfl))) (aJ (cb (b9 mP (hL T.bB T.gN (O 1)) (gT (U (b5 T.sU) (U (b5 T.Ci) ai))) z) (aN (a6 (rI (bf T.pw T.u4 (CT T) ab (U (O 0) (U (js T.bB T.ia (O 1)) ai))) (nN (bf T.qN T.yn (Lx T) ab (U (O 0) (U (O 2) (U (bf T.ma T.px (s4 T) ab (U (O 0) (U (js T.bB T.ia (O 1)) ai))) (U (hM T.bB T.gO (O 1)) ai))))))))) cj) (aN (a6 (rI (bf T.pv T.u3 (CS T) ab (U (O 0) (U (js T.bB T.ia (O 1)) ai))) (nN (bf T.qN T.yn (Lx T) ab (U (O 0) (U (O 2) (U (js T.bB T.ia (O 1)) (U (hM T.bB T.gO (O 1)) ai))))))))))))))),?_⟩;have ow:=afE s;have two:2<=sizeLine:=by decide
  unfold M.iz at k;refine⟨_,z,b,s,z,a8,z,_,z,bZ (λ D=>?_) (λ D=>?_)⟩
  ·have e:=(oy 1).mp D;rw[aA e] at k;exact k H (aH.refl _)
  have ap:¬ag s=1:=λ B=>D ((oy 1).mpr B);rw[ay ap] at k;refine⟨_,z,b,s,z,a8,two,λ p ar=>⟨p,_,z,.inr (dh.of aI),z,z,_,z,?_⟩⟩;have al:aH H (upd H p (.tup [.int 2,.int 5])):=bp ar;refine bZ (λ G=>?_) (λ G=>?_)
  ·have e:ag s=2\/ag s=5:=by have:=q7.mp G;omega
   rw[aA e] at k;exact⟨_,z,_,z,b,s,z,a8.same al,a,ss,aD s,z,aM.same al,λ aE aq=>k aE (al.trans aq)⟩
  have ao:¬(ag s=2\/ag s=5):=λ B=>G (q7.mpr ⇑1);rw[ay ao] at k;refine⟨_,z,b,s,z,a8.same al,two,λ fP iv=>⟨fP,_,z,.inr (dh.of aI),z,z,_,z,?_⟩⟩;have aq:=al.trans (bp (o:=.tup [.int 3,.int 4]) iv);refine bZ (λ an=>?_) (λ an=>?_)
  ·have e:ag s=3\/ag s=4:=by have:=q7.mp an;omega
   rw[aA e] at k;exact⟨_,z,_,z,b,s,z,a8.same aq,a,ss,aF s,z,aM.same aq,λ aE aO=>k aE (aq.trans aO)⟩
  have bz:¬(ag s=3\/ag s=4):=λ B=>an (q7.mpr ⇑1);rw[ay bz] at k;refine⟨_,z,b,s,z,a8.same aq,z,_,z,bZ (λ aU=>?_) (λ aU=>?_)⟩
  ·have e:=(oy 11).mp aU;rw[aA e] at k;refine⟨_,z,_,z,b,s,z,a8.same aq,a,ss,aF s,z,aM.same aq,λ aE aO=>⟨_,z,?_⟩⟩;cases q:M.d3 (nb ss) (aF s) with
   |false=>refine c7 ?_;rw[q] at k;exact k aE (aq.trans aO)
   |true=>refine df ⟨_,z,_,z,b,s,z,a8.same (aq.trans aO),a,ss,aD s,z,aM.same (aq.trans aO),λ bj bh=>?_⟩;rw[q,rs] at k;exact k bj ((aq.trans aO).trans bh)
  have fe:¬ag s=11:=λ B=>aU ((oy 11).mpr B);rw[ay fe] at k;have ah:b4 [((Sum.inl 6:Key),V.int 3),(.inl 7,.int 3),(.inl 8,.int 3),(.inl 9,.int 4),(.inl 10,.int 4)] (.inl (ag s:Int))=some (.int (M.qv (ag s):Nat)):=by
   have:ag s=6\/ag s=7\/ag s=8\/ag s=9\/ag s=10:=by omega
   rcases this with e|e|e|e|e<;>(rw[e];decide)
  refine⟨_,z,b,s,z,a8.same aq,_,_,.inl (ag s:Int),_,z,T.JV,z,ah,?_⟩;refine⟨_,z,b,s,z,a8.same aq,two,λ m' oz=>⟨m',_,z,.inr (dh.of aI),z,z,_,z,?_⟩⟩;have aO:=aq.trans (bp (o:=.tup [.int 6,.int 9]) oz);refine bZ (λ bY=>?_) (λ bY=>?_)
  ·have e:ag s=6\/ag s=9:=by have:=q7.mp bY;omega
   rw[aA e] at k;refine⟨_,z,_,z,b,s,z,a8.same aO,a,ss,aF s,z,aM.same aO,λ aE bh=>⟨_,z,?_⟩⟩;cases q:M.d3 (nb ss) (aF s) with
   |false=>refine c7 ?_;rw[q] at k;exact k aE (aO.trans bh)
   |true=>have ck:=aO.trans bh;refine df ⟨_,z,_,z,_,z,_,z,b,s,z,a8.same ck,a,ss,aF s,z,aM.same ck,q,λ bj cm=>?_⟩;refine⟨_,z,b,s,z,a8.same (ck.trans cm),a,ss,M.qv (ag s),_,aD s,z,aM.same (ck.trans cm),λ b1 ei=>?_⟩;rw[q,rs] at k;exact k b1 ((ck.trans cm).trans ei)
  have fT:¬(ag s=6\/ag s=9):=λ B=>bY (q7.mpr ⇑1);rw[ay fT] at k;refine⟨_,z,_,z,b,s,z,a8.same aO,a,ss,aF s,z,aM.same aO,λ aE bh=>⟨_,z,?_⟩⟩;cases q:M.fU (nb ss) (aF s) with
  |false=>refine c7 ?_;rw[q] at k;exact k aE (aO.trans bh)
  |true=>have ck:=aO.trans bh;refine df ⟨_,z,_,z,_,z,b,s,z,a8.same ck,_,z,b,s,z,a8.same ck,a,ss,M.qv (ag s),aF s,aD s,z,aM.same ck,λ bj cm=>?_⟩;rw[q,rs] at k;exact k bj (ck.trans cm)
def s5 (ss:List Sen)(i:Nat):List Nat:=(((nb ss).take i).filter λ x=> !M.iz (nb ss) x.2).map (·.1)
def afG (h:ss[i]?=some s):s5 ss (i+1)=s5 ss i++if M.iz (nb ss) s=true then[] else[i+1]:=by
 unfold s5;have e:(nb ss)[i]?=some (1+i,s):=by unfold nb;rw[M.uv,h];rfl
 rw[eH e,lw,db];congr 1;cases q:M.iz (nb ss) s with
 |true=>simp[List.filter,q]
 |false=>simp[List.filter,q];omega
def TS:⇑7 7 T.sD (afD T):=by
 refine bX T.sD.F BQ λ _ _ _ _ h=>?_
 ·obtain⟨l,ss,rfl,⟨as,ah,a8⟩,bR,k⟩:=h;refine⟨z,λ _ _ _ _ ab _ _=>?_⟩;intro X;refine⟨_,(aJ (tW (i:=1) BQ.nd z (Or.inr z) (mf T.hk T.j5 T.j6 (mg T) ab (U (O 0) ai))) (aN (a6 (jg z BQ.nd (Sp z T.CD (U (O 0) ai)) (hB (own:=[("number",2),("line",3)]) z) (λ _ _ _ _ _=>(v6 (K:=K) (i:=2) (j:=3) z z BQ.nd z z (Or.inl z) (Or.inl z) (Or.inr z) (Or.inr z))) (λ _ _ _ _ _=>r0 (iO (gE (bf T.u5 T.I6 (afF T) ab (U (O 1) (U (O 3) ai)))))) (λ _ _ _ _ _=>(O 2)))))),?_⟩;refine⟨_,z,l,ss,z,⟨as,ah,a8⟩,bR,λ p H1 al _ aM=>?_⟩;refine⟨_,z,l,_,z,aG.of (al _ _ ah),λ af cr=>?_⟩;refine⟨λ i m J=>m=as.length - i/\i<=as.length/\fY H1 af (λ i=>br (s5 ss i)) i J,⟨_,z,cQ _,fY.start cr z⟩,?_⟩;rintro i m J ⟨rfl,_,h⟩;have oA:=h.1 _ _ (al _ _ ah);by_cases c6:i<as.length
  ·have ej:=ez c6;obtain⟨bD,ae,oB⟩:=a8.get ej;refine .inr ⟨⟨_,.ref as[i],aG.of oA,by rw[d5,ej];rfl⟩,fY H1 af (λ i=>br (s5 ss i)) (i+1),λ _ b3=>⟨as.length - (i+1),⇑1,z,c6,b3⟩,λ _ _ aC=>?_⟩;obtain⟨TU,_,rfl,afH,rfl,aC⟩:=aC;have dQ:=aC _ (aG.of oA);rw[d5,ej] at dQ;cases dQ;have aq:aH J (upd J TU (.tup [.int ((i+1:Nat):Int),.ref as[i]])):=bp afH;refine⟨TU,_,z,dh.of aI,z,_,_,z,_,_,z,z,z,?_⟩;have aO:=(al.trans h.1).trans aq;refine⟨_,z,_,z,p,as[i],ss,bD,z,aM.same (h.1.trans aq),oB.same aO,λ _ bh=>⟨_,z,?_⟩⟩;have st:=afG ae;cases q:M.iz (nb ss) bD with
   |true=>rw[q,aA z,hr] at st;exact c7 (h.skip (aq.trans bh) (by show br _=br _;rw[st]))
   |false=>rw[q,ay ⇑0] at st;refine df ⟨_,z,h.step cr (aq.trans bh) (by show br _=br _++_;rw[st,iH];rfl) ?_⟩;rw[du];refine em ?_;unfold s5;rw[be];refine cK (hR _ _) ?_;rw[c5];have:=M.kr 1 ss;have:(nb ss).length=ss.length:=this;omega
  ·have e:i=as.length:=by omega
   subst e;refine .inl ⟨⟨_,aG.of oA,by rw[be];exact bG _⟩,k af J (al.trans h.1) (al.free cr) ?_⟩;rw[h.2];dsimp only;unfold s5 M.m2;rw[rh (by have:(nb ss).length=ss.length:=M.kr 1 ss;rw[this,a8.len];exact bG _)]
theorem TV:∀a b:Bytes,lessB a b=true↔a<b
 |[],[]=>by simp[lessB]
 |[],y::b=>by simp[lessB]
 |x::a,[]=>by simp[lessB]
 |x::a,y::b=>by rw[List.cons_lt_cons_iff,<-TV a b];simp[lessB]
def afI (s):st s.cps.toList=s:=by cases s;rfl
def TW {ys:List Str}(h:ys.Pairwise λ u v=>u.cps.toList<v.cps.toList)(hm:∀B,B∈ys↔B∈l.map st):ys.map V.str=bM (Vbtaae.sortB l):=by
 have e:ys.map (λ s=>s.cps.toList)=Vbtaae.sortB l:=by
  refine M.abz ?_ ?_;·refine p0.mpr (h.imp λ {_ b} q=>(TV _ _).mpr q)
  ·intro x;rw[cd];constructor
   ·rintro⟨s,au,rfl⟩;obtain⟨b,Y,e⟩:=cd.mp ((hm s).mp au);rw[<-e];exact Y
   ·intro aa;exact⟨st x,(hm _).mpr (cd.mpr ⟨x,aa,z⟩),z⟩
 rw[<-e];unfold bM;rw[ht];exact mu λ s _=>by show V.str s=V.str (st s.cps.toList);rw[afI]
def s6 (l):bM l=(l.map st).map V.str:=by unfold bM;rw[ht];rfl
def CZ (l):br l=(l.map λ(n:Nat)=>(n:Int)).map V.int:=by unfold br;rw[ht];rfl
def afJ {ns:List Int}(h:ns.Pairwise (· < ·))(hm:∀B,B∈ns↔B∈l.map λ(n:Nat)=>(n:Int)):ns.map V.int=br (Vbtaae.sortNums l):=by
 have e:ns.map Int.toNat=Vbtaae.sortNums l:=by
  refine M.xR ?_ (M.sa l) λ x=>?_
  ·refine p0.mpr (h.imp_of_mem λ {a b} az Y _=>?_);obtain⟨n,_,rfl⟩:=cd.mp ((hm a).mp az);obtain⟨_,_,rfl⟩:=cd.mp ((hm b).mp Y);omega
  ·rw[M.pf,cd];constructor
   ·rintro⟨B,hz,rfl⟩;obtain⟨n,aB,rfl⟩:=cd.mp ((hm B).mp hz);simpa using aB
   ·intro aa;exact⟨(x:Int),(hm _).mpr (cd.mpr ⟨x,aa,z⟩),⇑2⟩
 rw[<-e];unfold br;rw[ht];refine mu λ B hz=>?_;obtain⟨n,_,rfl⟩:=cd.mp ((hm B).mp hz);rfl
def afK (l):(br l).all mO=true:=by rw[hq];intro _ ba;obtain⟨_,_,rfl⟩:=cd.mp ba;rfl
def TX (l):(bM l).all mO=true:=by rw[hq];intro _ ba;obtain⟨_,_,rfl⟩:=cd.mp ba;rfl
def afL (n:Nat)(l):eb (.int (n:Int)) (br l)=l.contains n:=by
 unfold eb br;rw[rt,eW,hS,nA];constructor
 ·rintro⟨x,aa,e⟩;have e:=e;have:x=n:=by have:=nJ e;omega
  rw[<-this];exact aa
 ·intro h;exact⟨n,h,by show((n:Int)==(n:Int))=true;simp⟩
def Lz (n)(l):eb (.str (st n)) (bM l)=l.contains n:=by
 unfold eb bM;rw[rt,eW,hS,nA];constructor
 ·rintro⟨x,aa,e⟩;have e:=e;have:x=n:=jr (nJ e);rw[<-this];exact aa
 ·intro h;exact⟨n,h,by show(st n==st n)=true;simp⟩
inductive afM:mD->Prop|mk{E}a t ss bT:ν=[.ref a,.ref t]->fL T η a ss->ss.length<=1000->dh K η t (br bT)->(∀l J,aH η J->η l=none->J l=some (.lst (bM (M.d4 (nb ss) λ f=>bT.contains f)))->θ (.ref l) J)->afM E
abbrev HeldAt (T:e3 K am)(H:aP)(b:Addr)(s:Int)(hN jn:Nat):Prop:=yZ T.qX H b s hN jn
inductive afN:mD->Prop|mk{E}(a:Addr)(ss:List Sen)(hN n:Nat)(s:Sen):ν=[.ref a,.int (hN:Int),.int (n:Int)]->fL T η a ss->(n,s)∈nb ss->(∀p J,aH η J->η p=none->HeldAt T J p (bv s) hN n->θ (.ref p) J)->afN E
inductive afO:mD->Prop|mk{E}(a l:Addr)(ss:List Sen)(t k w:Bytes)(f:Nat):ν=[.ref a,.str (st t),.ref l,.int (f:Int),.str (st w)]->fL T η a ss->η l=some (.lst (bM (bF (nb ss) k)))->(f=3\/f=4)->(∀p J,aH η J->η p=none->HeldAt T J p (M.fu (M.say (nb ss) f t k w)) (M.gy (M.say (nb ss) f t k w)) (M.lineNo (M.say (nb ss) f t k w))->θ (.ref p) J)->afO E
inductive afP:mD->Prop|mk{E}a p ss f t k w:ν=[.ref a,.str (st k),.ref p]->fL T η a ss->HeldAt T η p (M.fu (M.say (nb ss) f t k w)) (M.gy (M.say (nb ss) f t k w)) (M.lineNo (M.say (nb ss) f t k w))->(∀l J,aH η J->η l=none->J l=some (.lst (bM (bF (nb ss) (M.kindS (M.say (nb ss) f t k w) k))))->θ (.ref l) J)->afP E
def y0 (ss:List Sen)(f:Nat)(t k w:Bytes):List Nat:=Vbtaae.reasons (nb ss) t k (M.lineNo (M.say (nb ss) f t k w)) (M.hi (nb ss) f (Vbtaae.kindSaid (nb ss) (M.lineNo (M.say (nb ss) f t k w)) k) w)
inductive afQ:mD->Prop|mk{E}(a p:Addr)(ss:List Sen)(f n m6:Nat)(t k w:Bytes):ν=[.ref a,.str (st t),.int (f:Int),.str (st w),.ref p]->fL T η a ss->ss.length<=1000->M.World ss->(f=3\/f=4)->a7 (nb ss) 5 t=some (n,k)->M.hi (nb ss) f k w=some m6-> HeldAt T η p (M.fu (M.say (nb ss) f t k w)) (M.gy (M.say (nb ss) f t k w)) (M.lineNo (M.say (nb ss) f t k w))->(∀l J,aH η J->η l=none->J l=some (.lst (br (y0 ss f t k w)))->θ (.ref l) J)->afQ E
def C0 (h:ss[i]?=some s):(nb ss)[i]?=some (i+1,s):=by unfold nb;rw[M.uv,h,zS];rfl
def ii (ss):(nb ss).length=ss.length:=M.kr 1 ss
def pick (ss:List Sen)(p:Sen->Bool)(g:Sen->V)(i:Nat):List V:=(((nb ss).take i).filter λ x=>p x.2).map λ x=>g x.2
def LA (h:ss[i]?=some s)(q:p s=true):pick ss p g (i+1)=pick ss p g i++[g s]:=by unfold pick;rw[eH (C0 h),lw,db];simp[List.filter,q]
def LB (h:ss[i]?=some s)(q:p s=false):pick ss p g (i+1)=pick ss p g i:=by unfold pick;rw[eH (C0 h),lw,db];simp[List.filter,q]
def LC (ss)(p)(g)(i):(pick ss p g i).length<=ss.length:=by unfold pick;rw[be];refine cK (hR _ _) ?_;rw[c5,ii];omega
def LD (ss)(p)(g)(h:n=ss.length):pick ss p g n=((nb ss).filter λ x=>p x.2).map λ x=>g x.2:=by unfold pick;rw[rh (by rw[ii,h];exact bG _)]
def LF:⇑7 1 T.qM (afM T):=by
 refine bX T.qM.F Hs λ H _ _ _ h=>?_
 ·obtain⟨a,t,ss,bT,rfl,⟨as,aM⟩,_,aK,k⟩:=h;refine⟨z,λ _ _ _ s _ _ _=>?_⟩;intro X;refine⟨_,(aN (a6 (GY z T.sX T.yK (jg z Hs.nd (eN (yV T.bB T.c4 T.oi (O 0))) (hB (own:=[("line",2)]) z) (λ _ _ _ _ _=>(gF (i:=2) Hs.nd z (Or.inl z) (Or.inr z))) (λ _ _ _ _ _=>r0 (b9 (CV (K:=K) z) (hL T.bB T.gN (O 2)) (O 1) z)) (λ _ _ _ _ _=>(js T.bB T.ia (O 2))))))),?_⟩;have a8:=(let ⟨_,_,_,_,_,_,R⟩:=aM;R.kE:dg T.da H as ss);refine⟨_,z,a,as,ss,z,aM,λ av fw=>⟨av,z,⟨_,aG.of fw⟩,λ af cr=>?_⟩⟩;refine km (K:=K) (a:=av) (xs:=as.map V.ref) (fY H af (pick ss (λ s=>bT.contains (ag s)) λ s=>.str (st (aF s)))) (.start cr z) (λ i J _ h=>aG.of (h.1 _ _ fw)) ?_ ?_
  ·rintro i x J aj h;rw[d5] at aj;cases ej:as[i]? with
   |none=>rw[ej] at aj;cases aj
   |some b=>
    rw[ej] at aj;cases aj;obtain⟨bD,ae,oB⟩:=a8.get ej;have nm:=oB.same h.1;have iR:dh K J t (br bT):=by
     rcases aK with (q|⟨o,q⟩)|q;·exact .inl (.inl (h.1 _ _ q))
     ·exact .inl (.inr ⟨o,h.1 _ _ q⟩)
     ·exact .inr q
    refine⟨z,_,z,b,bD,z,nm,_,z,t,_,z,.inr iR,z,afK _,_,z,?_⟩;have ap:(if false=true then !eb (.int (ag bD:Int)) (br bT) else eb (.int (ag bD:Int)) (br bT))=bT.contains (ag bD):=by rw[ay ⇑0];exact afL _ _
    rw[ap];refine bZ (λ q=>?_) (λ q=>?_);·exact⟨_,z,b,bD,z,nm,h.step cr (aH.refl _) (LA ae q) (em (by have:=LC ss (λ s=>bT.contains (ag s)) (λ s=>.str (st (aF s))) i;omega))⟩
    ·exact h.skip (aH.refl _) (LB ae ↥q)
  ·rintro J ⟨D,G⟩;rw[be,LD _ _ _ a8.len] at G;have e:((nb ss).filter λ x=>bT.contains (ag x.2)).map (λ x=>V.str (st (aF x.2)))=bM (M.l3 (nb ss) λ f=>bT.contains f):=by unfold bM M.l3;rw[ht];rfl
   rw[e,s6] at G;refine⟨af,z,.inr ⟨_,aG.of G,?_,λ _ p LG hm ar=>k p _ (D.trans (bp ar)) (D.free ar) ?_⟩⟩
   ·rw[be];unfold M.l3;rw[be];refine kR (hR _ _) ?_;rw[ii];omega
   ·rw[aI,TW LG hm];rfl
def afR:bA:=TP T.qX
def TY (s)(h r):(yY s h r).lookup ("how":Str)=some (.int (h:Int)):=rfl
def LH (s)(h r):(yY s h r).lookup ("source":Str)=some (.int (r:Int)):=rfl
def LI (s)(h r):(yY s h r).lookup ("said":Str)=some (.int s):=rfl
def mh (f:Nat):List (Nat×Nat):=if f=3 then[(7,2),(8,3)] else[(10,3)]
def mi (f:Nat):Nat:=if f=3 then 6 else 9
def afS (h:bm (cH (mi f) t w) ls=some x):M.say ls f t k w=some x:=by
 unfold mi at h;unfold M.say M.gj M.hG;by_cases q:f=3;·rw[aA q] at h⊢;rw[h];rfl
 ·rw[ay q] at h⊢;rw[h];rfl
def afT (h:bm (cH (mi f) t w) ls=none):M.say ls f t k w=(mh f).findSome? λ p=>M.eR ls p.1 k w:=by
 unfold mi at h;unfold M.say M.gj M.hG mh;by_cases q:f=3
 ·rw[aA q] at h⊢;rw[h,aA q,tB];simp only[List.findSome?];cases M.eR ls 7 k w with
  |some x=>rfl
  |none=>cases M.eR ls 8 k w<;>rfl
 ·rw[ay q] at h⊢;rw[h,ay q,tB];simp only[List.findSome?];cases M.eR ls 10 k w<;>rfl
def afU (h:bm (cH (mi f) t w) ls=some x):M.gy (some x)=1:=by
 have:=(M.h4.mp (M.gM h).2).1;unfold M.gy mi at *;dsimp only;by_cases q:f=3;·rw[aA q] at this;rw[aA (Or.inl this)]
 ·rw[ay q] at this;rw[aA (Or.inr this)]
def afV (ar:p∈mh f)(h:M.eR ls p.1 k w=some x):M.gy (some x)=p.2:=by
 have:=(M.qy h).2.1;unfold M.gy;dsimp only;unfold mh at ar;by_cases q:f=3
 ·rw[aA q] at ar;simp only[bN,kS,kT] at ar;rcases ar with rfl|rfl<;>(dsimp only at this;rw[this];rfl)
 ·rw[ay q] at ar;simp only[bN,kS,kT] at ar;rcases ar with rfl
  dsimp only at this;rw[this];rfl
def afW (ss)(f)(k w):near ss f (bF (nb ss) k) w=((M.eR (nb ss) f k w).map (·.1)).getD 0:=rfl
def TZ:⇑7 1 T.sE (afR T):=by
 refine bX T.sE.F aee λ _ _ _ _ h=>?_;obtain⟨p,dx,_,_,_,rfl,ar,k⟩:=h;refine⟨z,λ _ _ _ _ _ _ _=>?_⟩;intro X;refine⟨_,(aJ (jd (O 0) (O 1) z) (aJ (jd (O 0) (O 2) z) (aN (jd (O 0) (O 3) z)))),?_⟩;refine⟨_,z,_,z,p,_,dx,[],z,ar,T.jq,T.vO,(by show 0<1000;decide),?_⟩;refine⟨_,z,_,z,p,_,dx,_,z,aI,T.jq,T.yB,(by show 1<1000;decide),?_⟩;refine⟨_,z,_,z,p,_,dx,_,z,aI,T.jq,T.vP,(by show 2<1000;decide),?_⟩;refine k _ ?_ λ _ _ e Y=>by rw[dv Y,dv Y,dv Y];exact e
 rw[aI];rfl
def T0:⇑7 3 T.sF (afN T):=by refine bX T.sF.F aef λ _ _ _ _ h=>?_;obtain⟨a,ss,hN,n,s,rfl,aM,aB,k⟩:=h;refine⟨z,λ _ _ _ _ ab _ _=>?_⟩;intro X;refine⟨_,(aN (a6 (TR T.sE T.Cg T.Ch (TZ T) ab (U (s2 T.bB T.oo (e4 T.bB T.c4 T.hI T.iZ (λ _ _ _=>rfl) (j9 T) ab (O 0) (U (O 2) ai))) (U (O 1) (U (O 2) ai)))))),?_⟩;exact⟨_,z,a,z,⟨ss,aM⟩,_,z,a,ss,n,s,z,aM,aB,λ b Y=>⟨b,s,z,Y,_,z,_,z,bv s,hN,n,z,k⟩⟩
def LJ:⇑7 4 T.held (afO T):=by
 refine bX T.held.F BR λ H _ _ _ h=>?_;obtain⟨a,l,ss,t,aQ,w,f,rfl,aM,ah,aS,k⟩:=h;refine⟨z,λ _ _ _ _ ab _ _=>?_⟩;intro X;refine⟨_,(aJ (bQ 5 BR.nd (e4 T.bB T.c4 T.qJ T.yA (λ _ _ _=>rfl) (Lo T) ab (O 0) (U (uK (li T.Cn) (O 3) (λ _ _=>rfl)) (U (O 1) (U (O 4) ai))))) (aJ (cb (b9 fO (O 5) bc (b7 _)) (aN (a6 (bf T.sF T.B6 (T0 T) ab (U (O 0) (U (b5 T.Ck) (U (O 5) ai)))))) cj) (aJ (gs f1 z (Ab (uK (li T.Co) (O 3) (λ _ _=>rfl))) (v6 (K:=K) (i:=6) (j:=7) z z BR.nd z z (Or.inl z) (Or.inl z) (Or.inl z) (Or.inl z)) (aJ (bQ 5 BR.nd (bf T.qL T.yl (Lv T) ab (U (O 0) (U (O 6) (U (O 2) (U (O 4) ai)))))) (aN (cb (b9 fO (O 5) bc (b7 _)) (aN (a6 (bf T.sF T.B6 (T0 T) ab (U (O 0) (U (O 7) (U (O 5) ai)))))) cj)))) (aN (a6 (TR T.sE T.Cg T.Ch (TZ T) ab (U bc (U (b5 T.Cm) (U bc ai))))))))),?_⟩;have ba:b4 [((Sum.inl 3:Key),V.int 6),(.inl 4,.int 9)] (.inl (f:Int))=some (.int (mi f:Nat)):=by rcases aS with e|e<;>(rw[e];decide)
 refine⟨_,z,a,z,⟨ss,aM⟩,_,z,_,_,.inl (f:Int),_,z,T.JW,z,ba,_,z,_,z,a,ss,mi f,t,w,z,aM,λ _ al=>?_⟩;refine⟨_,z,_,_,z,z,_,z,bZ (λ D=>?_) (λ D=>?_)⟩
 ·have D:0<lj ss (mi f) t w:=by simpa using D
  obtain⟨x,aa⟩:=jy.mp (yU.mp D);have el:lj ss (mi f) t w=x.1:=by unfold lj;rw[aa];rfl
  rw[afS aa,afU aa] at k;rw[el];exact⟨_,z,_,z,a,ss,1,x.1,x.2,z,aM.same al,(M.gM aa).1,λ p aE aq ar b3=>k p aE (al.trans aq) (al.free ar) b3⟩
 have aa:bm (cH (mi f) t w) (nb ss)=none:=by
  cases e:bm (cH (mi f) t w) (nb ss) with
  |none=>rfl
  |some x=>exact absurd (yU.mpr (by rw[e];rfl)) (by simpa[lj] using D)
 rw[afT aa] at k;have afX:∃(as:Addr)(xs:List Addr),b4 [((Sum.inl 3:Key),V.ref T.Cp),(.inl 4,.ref T.Cq)] (.inl (f:Int))=some (.ref as)/\dD K as (xs.map V.ref)/\xs.length=(mh f).length/\
   ∀(i:Nat)(b:Addr)(p:Nat×Nat),xs[i]?=some b->(mh f)[i]?=some p->dD K b [.int (p.1:Int),.int (p.2:Int)]:=by
  rcases aS with e|e
  ·subst e;refine⟨T.Cp,[T.JX,T.JZ],z,T.yE,z,λ i b p D G=>?_⟩
   match i,D,G with
   |0,D,G=>cases D;cases G;exact T.JY
   |1,D,G=>cases D;cases G;exact T.J0
   |i+2,D,G=>simp at D
  ·subst e;refine⟨T.Cq,[T.J1],z,T.Cr,z,λ i b p D G=>?_⟩
   match i,D,G with
   |0,D,G=>cases D;cases G;exact T.J2
   |i+1,D,G=>simp at D
 obtain⟨T1,xs,GA,AH,T2,uI⟩:=afX;refine⟨_,z,_,_,.inl (f:Int),_,z,T.yF,z,GA,T1,z,⟨_,AH.i1⟩,ED (K:=K) (a:=T1) (xs:=xs.map V.ref) (λ i L J=>∃e5 hn,XL (λ lm=>L=[some (.ref a),some (.str (st t)),some (.ref l),some (.int f),some (.str (st w)),e5,hn,lm]) (aH H J) (∀j p,j<i->(mh f)[j]?=some p->M.eR (nb ss) p.1 aQ w=none)) ⟨_,none,none,z,al,λ j p a0=>absurd a0 (p5 _)⟩ (λ i L J _ _=>AH.i1) ?_ ?_⟩
 ·rintro i _ L J aj ⟨e5,hn,lm,rfl,aq,dK⟩;rw[d5] at aj;cases di:xs[i]? with
  |none=>rw[di] at aj;cases aj
  |some b=>
   rw[di] at aj;cases aj;have l7:i<(mh f).length:=by rw[<-T2];exact(c_.mp di).1
   have ep:=ez l7;generalize (mh f)[i]=p at ep;have ar:=uI i b p di ep;refine⟨b,_,z,ar.i1,z,_,_,z,_,_,z,z,?_⟩;refine⟨_,z,_,z,_,z,_,z,a,l,ss,p.1,_,w,z,aM.same aq,aq _ _ ah,λ _ aO=>?_⟩;rw[afW];refine⟨_,z,_,_,z,z,_,z,?_⟩;cases o_:M.eR (nb ss) p.1 aQ w with
   |none=>
    refine bZ (λ G=>absurd G ⇑2) (λ _=>⟨_,_,_,z,aq.trans aO,λ j q a0 aK=>?_⟩);by_cases e:j=i;·subst e;rw[ep] at aK;cases aK;exact o_
    ·exact dK j q ⇑1 aK
   |some x=>
    have LK:=pD (M.qy o_).1;refine bZ (λ _=>?_) (λ G=>absurd (by simp;omega) G);have ae:(mh f).findSome? (λ p=>M.eR (nb ss) p.1 aQ w)=some x:=by
     rw[zx];refine⟨(mh f).take i,p,(mh f).drop (i+1),?_,o_,λ q aK=>?_⟩;·rw[<-(c_.mp ep).2,<-ny,oM]
     ·obtain⟨j,a0⟩:=jz aK;have pH:=(c_.mp a0).1;rw[c5] at pH;rw[ts,aA ⇑1] at a0;exact dK j q ⇑1 a0
    rw[ae,afV (gc ep) o_] at k;exact⟨_,z,_,z,_,z,a,ss,p.2,x.1,x.2,z,aM.same (aq.trans aO),(M.qy o_).1,λ q b1 bh aK b3=>k q b1 ((aq.trans aO).trans bh) ((aq.trans aO).free aK) b3⟩
 ·rintro L J ⟨e5,hn,lm,rfl,aq,dK⟩;rw[be,T2] at dK;rw[tj.mpr λ p ar=>by obtain⟨j,a0⟩:=jz ar;exact dK j p (c_.mp a0).1 a0] at k
  exact⟨0,4,0,z,λ p b1 bh ar b3=>k p b1 (aq.trans bh) (aq.free ar) b3⟩
def afY:⇑7 5 T.u6 (afP T):=by
 refine bX T.u6.F aeg λ H _ _ _ h=>?_;obtain⟨a,p,ss,f,t,aQ,w,rfl,aM,b3,k⟩:=h;refine⟨z,λ _ _ _ _ ab _ _=>?_⟩;intro X;refine⟨_,(aJ (cb (b9 mP (cZ (O 2) z) (gT (U (b5 T.Ck) (U (b5 T.Cm) ai))) z) (aN (a6 (bf T.j4 T.l' (ox T) ab (U (O 0) (U (O 1) ai))))) cj) (aN (a6 (bf T.j4 T.l' (ox T) ab (U (O 0) (U (js T.bB T.ia (e4 T.bB T.c4 T.hI T.iZ (λ _ _ _=>rfl) (j9 T) ab (O 0) (U (cZ (O 2) z) ai))) ai)))))),?_⟩;obtain⟨dx,ar⟩:=b3;have two:2<=sizeLine:=by decide
 refine⟨_,z,p,_,dx,_,_,z,ar,T.jq,T.yB,TY _ _ _,two,λ q aK=>⟨q,_,z,.inr (dh.of aI),z,z,_,z,?_⟩⟩;have al:aH H (upd H q (.tup [.int 1,.int 4])):=bp aK;cases e:M.say (nb ss) f t aQ w with
 |none=>rw[e] at k;refine bZ (λ _=>?_) (λ D=>absurd (by rfl) D);exact⟨_,z,_,z,a,ss,aQ,z,aM.same al,λ l aE aq me ah=>k l aE (al.trans aq) (al.free me) ah⟩
 |some x=>
  rw[e] at k ar;obtain⟨a',_,_⟩:=M.Bn e;unfold M.kindS at k;dsimp only at k;by_cases kW:ag x.2=6\/ag x.2=9
  ·rw[aA kW] at k;have hw:M.gy (some x)=1:=by unfold M.gy;dsimp only;rw[aA kW]
   rw[hw];refine bZ (λ _=>?_) (λ D=>absurd (by rfl) D);exact⟨_,z,_,z,a,ss,aQ,z,aM.same al,λ l aE aq me ah=>k l aE (al.trans aq) (al.free me) ah⟩
  ·rw[ay kW] at k;have hw:M.gy (some x)=2\/M.gy (some x)=3:=by
    unfold M.gy;dsimp only;rw[ay kW];by_cases iP:ag x.2=7;·rw[aA iP];exact .inl z
    ·rw[ay iP];exact .inr z
   refine bZ (λ D=>?_) (λ _=>?_)
   ·exfalso;rcases hw with B|B<;>(rw[B] at D;exact absurd D ⇑0)
   ·refine⟨_,z,_,z,a,z,⟨ss,aM.same al⟩,_,z,p,_,dx,_,_,z,al _ _ ar,T.jq,T.vP,LH _ _ _,a,ss,x.1,x.2,z,aM.same al,a',λ b Y=>⟨b,x.2,z,Y,a,ss,aF x.2,z,aM.same al,λ l aE aq me ah=>k l aE (al.trans aq) (al.free me) ah⟩⟩
def xl {v:V}(h:xs.getLast? =some v):kY xs (-1)=some v:=by
 have ah:0<xs.length:=by cases xs with
  |nil=>cases h
  |cons _ _=>exact Nat.succ_pos _
 rw[List.getLast?_eq_getElem?] at h;unfold kY kX;rw[ay ⇑0,aA ⇑1];rw[show(-1+(xs.length:Int)).toNat=xs.length - 1 by omega];exact h
def afZ (h:M.hi (nb ss) f k w=some i):near ss f (bF (nb ss) k) w=i:=by
 unfold M.hi at h;unfold near;have e:∀l:List Bytes,(l.findSome? λ m=>(bm (cH f m w) (nb ss)).map (·.1))=(l.findSome? λ m=>bm (cH f m w) (nb ss)).map (·.1):=by
  intro l;induction l with
  |nil=>rfl
  |cons m r ih=>
   rw[oN,oN];cases bm (cH f m w) (nb ss) with
   |none=>exact ih
   |some x=>rfl
 rw[e] at h;rw[h];rfl
def C1 (ss)(k):(bF (nb ss) k).length<=ss.length+1:=by unfold bF;rw[cJ,be];have:=pF ss 2 k;omega
def af0:⇑7 6 T.reasons (afQ T):=by
 refine bX T.reasons.F HE λ H _ Q _ h=>?_;obtain⟨a,p,ss,f,n,_,t,aQ,w,rfl,aM,_,W,aS,aB,q8,b3,k⟩:=h;refine⟨z,λ _ _ _ _ ab _ _=>?_⟩;intro X;refine⟨_,(aJ (bQ 5 HE.nd (bf T.ma T.px (s4 T) ab (U (O 0) (U (O 1) ai)))) (aJ (bQ 6 HE.nd (bf T.qK T.yk (Ls T) ab (U (O 0) (U (b5 T.ot) (U (O 5) ai))))) (aJ (eY (fX hK (O 6) (U (e4 T.bB T.c4 T.jo T.lh (λ _ _ _=>rfl) (nk T) ab (O 0) (U (b5 T.mb) (U (O 1) ai))) ai))) (aJ (eY (fX hK (O 6) (U (bf T.qL T.yl (Lv T) ab (U (O 0) (U (O 2) (U (bf T.u6 T.I7 (afY T) ab (U (O 0) (U (O 5) (U (O 4) ai)))) (U (O 3) ai))))) ai))) (aJ (eY (fX hK (O 6) (U (e4 T.bB T.c4 T.jo T.lh (λ _ _ _=>rfl) (nk T) ab (O 0) (U (b5 T.sR) (U (hy jf (bf T.j4 T.l' (ox T) ab (U (O 0) (U (O 5) ai))) (t0 t1 bc) (λ _ _=>rfl)) ai))) ai))) (aJ (cb (b9 fO (cZ (O 4) z) bc (b7 _)) (aN (eY (fX hK (O 6) (U (cZ (O 4) z) ai)))) cj) (aN (a6 (GY z T.sX T.yK (O 6)))))))))),?_⟩;obtain⟨i,r,aj,af1,LL⟩:=M.Sd W aS aB q8;have LL:y0 ss f t aQ w=_:=LL;rw[LL] at k;have ax:M.d3 (nb ss) t=true:=by
  unfold M.d3;unfold a7 at aB;cases e:bm (cg 5 t) (nb ss) with
  |none=>rw[e] at aB;cases aB
  |some x=>rfl
 have h9:M.cV (nb ss) t=aQ:=by unfold M.cV;rw[aB]
 have fT:eT ss 5 t=n:=by
  rw[yT];unfold a7 at aB;cases e:bm (cg 5 t) (nb ss) with
  |none=>rw[e] at aB;cases aB
  |some x=>rw[e] at aB;cases aB;rfl
 have ap:eT ss 1 (M.k' (nb ss) aQ)=r.1:=by rw[yT];show((bm (cg 1 (M.k' (⇑6 ss) aQ)) (⇑6 ss)).map (·.1)).getD 0=r.1;rw[af1];rfl
 have CR:=pF ss 2 aQ;refine⟨_,z,_,z,a,ss,t,z,aM,ax,λ _ al=>?_⟩;rw[h9];refine⟨_,z,_,z,a,ss,2,aQ,z,aM.same al,λ l _ aq me ah=>?_⟩;have iU:=al.free me;have ed:=al.trans aq;have LM:((b' (nb ss) 2 aQ).map (·.1)).length<=1000:=by rw[be];omega
 refine⟨_,z,.inl ⟨z,_,aG.of ah⟩,_,z,a,z,⟨ss,aM.same ed⟩,_,z,a,ss,5,t,z,aM.same ed,λ bj aO=>⟨l,_,_,z,z,aO _ _ ah,(by rw[du];exact em ⇑1),?_⟩⟩;rw[fT];have bh:=ev (o:=.lst (br ((b' (nb ss) 2 aQ).map (·.1))++[.int (n:Int)])) (ed.trans aO) iU;have pC:upd bj l (.lst (br ((b' (nb ss) 2 aQ).map (·.1))++[.int (n:Int)])) l=some (.lst (br ((b' (nb ss) 2 aQ).map (·.1)++[n]))):=by rw[aI,iH];rfl
 generalize upd bj l (.lst (br ((b' (nb ss) 2 aQ).map (·.1))++[.int (n:Int)]))=b1 at bh pC;refine⟨_,z,.inl ⟨z,_,aG.of pC⟩,_,z,_,z,_,z,_,z,_,z,a,p,ss,f,t,aQ,w,z,aM.same bh,b3.same bh,λ q _ ck _ aK=>?_⟩;have T3:=bh.trans ck;refine⟨_,z,a,q,ss,f,_,w,z,aM.same T3,aK,λ fI cm=>⟨l,_,_,z,z,cm _ _ (ck _ _ pC),(by rw[du,cX];exact em (by simp at LM⊢;omega)),?_⟩⟩;rw[afZ aj];have ei:=ev (o:=.lst (br ((b' (nb ss) 2 aQ).map (·.1)++[n])++[.int (i:Int)])) (T3.trans cm) iU;have LN:upd fI l (.lst (br ((b' (nb ss) 2 aQ).map (·.1)++[n])++[.int (i:Int)])) l=some (.lst (br ((b' (nb ss) 2 aQ).map (·.1)++[n]++[i]))):=by rw[aI,iH _ [i]];rfl
 generalize upd fI l (.lst (br ((b' (nb ss) 2 aQ).map (·.1)++[n])++[.int (i:Int)]))=g_ at ei LN;refine⟨_,z,.inl ⟨z,_,aG.of LN⟩,_,z,a,z,⟨ss,aM.same ei⟩,_,z,_,z,a,ss,aQ,z,aM.same ei,λ bb _ fp _ nn=>?_⟩;have T4:=ei.trans fp;have LO:(bM (bF (nb ss) aQ)).getLast? =some (.str (st (M.k' (nb ss) aQ))):=by unfold bM M.k';rw[DR,Nr (show bF (nb ss) aQ≠[] from oS _ _)];rfl
 refine⟨_,z,bb,_,_,_,z,z,aG.of nn,xl LO,?_⟩;refine⟨a,ss,1,M.k' (nb ss) aQ,z,aM.same T4,λ xz gY=>⟨l,_,_,z,z,gY _ _ (fp _ _ LN),(by rw[du,cX,cX];exact em (by simp at LM⊢;omega)),?_⟩⟩;rw[ap];have iS:=ev (o:=.lst (br ((b' (nb ss) 2 aQ).map (·.1)++[n]++[i])++[.int (r.1:Int)])) (T4.trans gY) iU;have C2:upd xz l (.lst (br ((b' (nb ss) 2 aQ).map (·.1)++[n]++[i])++[.int (r.1:Int)])) l=some (.lst (br ((b' (nb ss) 2 aQ).map (·.1)++[n]++[i]++[r.1]))):=by rw[aI,iH _ [r.1]];rfl
 generalize upd xz l (.lst (br ((b' (nb ss) 2 aQ).map (·.1)++[n]++[i])++[.int (r.1:Int)]))=ud at iS C2;have cY:∀(nums:List Nat)(J:aP),nums=((b' (⇑6 ss) 2 aQ).map (·.1)++[n]++[i]++[r.1]++(if 0<M.lineNo (M.say (⇑6 ss) f t aQ w) then[M.lineNo (M.say (⇑6 ss) f t aQ w)] else[]))->aH H J->J l=some (.lst (br nums))->
   S3 K (i_ 6) [some (.ref a),some (.str (st t)),some (.int f),some (.str (st w)),some (.ref p),some (.str (st aQ)),some (.ref l)] J Q:=by
  intro nums J e pI h;refine⟨_,z,l,z,.inl ⟨nums.map λ(n:Nat)=>(n:Int),aG.of (by rw[h,CZ]),?_,λ _ p AU hm ar=>k p _ (pI.trans (bp ar)) (pI.free ar) ?_⟩⟩
  ·rw[be,e];have:(b' (⇑6 ss) 2 aQ).length<=ss.length:=pF ss 2 aQ;simp only[cX,cJ,p4,be];split<;>simp<;>omega
  ·rw[aI,afJ AU hm,e]
 obtain⟨dx,ar⟩:=b3;refine⟨_,z,p,_,dx,_,_,z,iS _ _ ar,T.jq,T.vP,LH _ _ _,_,_,z,z,_,z,bZ (λ D=>?_) (λ D=>?_)⟩
 ·have D:0<M.lineNo (M.say (nb ss) f t aQ w):=by simpa using D
  refine⟨_,z,.inl ⟨z,_,aG.of C2⟩,_,z,p,_,dx,_,_,z,iS _ _ ar,T.jq,T.vP,LH _ _ _,l,_,_,z,z,C2,(by rw[du,cX,cX,cX];exact em (by simp at LM⊢;omega)),?_⟩;refine cY _ _ ?_ (ev iS iU) (by rw[aI];exact congrArg (λ B=>some (gn.lst B)) (iH _ [M.lineNo (M.say (nb ss) f t aQ w)]).symm);rw[aA D]
 ·have D:¬ 0<M.lineNo (M.say (nb ss) f t aQ w):=by simpa using D
  refine cY _ _ ?_ iS C2;rw[ay D,hr]
def no (l:List Bytes):List (Key×V):=l.map λ b=>(Sum.inr (st b),V.bg true)
def T5 (l)(b):b4 (no l) (Sum.inr (st b))=if b∈l then some (.bg true) else none:=by
 unfold b4 no;induction l with
 |nil=>rfl
 |cons x r ih=>
  rw[bU,io];by_cases e:x=b;·subst e;simp
  ·have ao:¬(Sum.inr (st x):Key)=Sum.inr (st b):=λ B=>e (jr (by injection B));rw[eA ao];rw[ih];have bz:¬b=x:=λ B=>e B.symm;simp[bz]
def af2 (l)(b):putK (no l) (Sum.inr (st b)) (.bg true)=no (if b∈l then l else l++[b]):=by
 by_cases h:b∈l
 ·rw[aA h];unfold putK;have q:((no l).any λ ct=>decide (ct.1=Sum.inr (st b)))=true:=by rw[uf,T5,aA h];rfl
  rw[aA q];unfold no;rw[ht];refine mu λ x _=>?_;show(if (Sum.inr (st x):Key)=Sum.inr (st b) then(Sum.inr (st x),V.bg true) else(Sum.inr (st x),V.bg true))=_;split<;>rfl
 ·rw[ay h,Fe _ (by rw[T5,ay h])];unfold no;rw[db];rfl
def af3 (l):(no l).map (λ ct=>c0 ct.1)=bM l:=by unfold no bM;rw[ht];rfl
def af4 {bO:Type}{P:List bO->Prop}(aX:P [])(D:∀l x,P l->P (l++[x]))(l):P l:=by
 have key:∀m:List bO,P m.reverse:=by
  intro m;induction m with
  |nil=>exact aX
  |cons x r ih=>rw[N8];exact D _ _ ih
 have:=key l.reverse;rwa [NQ] at this
def af5 (l):(M.eP l).length<=l.length:=by
 refine af4 (P:=λ l=>(M.eP l).length<=l.length) ?_ ?_ l;·exact bG _
 ·intro l _ ih;rw[M.Rd];split
  ·rw[cX];omega
  ·rw[cX,cX];simp;exact ih
inductive af6(T:e3 K am)(vs:List V)(H:aP)(Q:d7)(E:mD):Prop|mk l ns:vs=[.ref l]->H l=some (.lst (bM ns))->ns.length<=4000->(∀r J,aH H J->H r=none->J r=some (.lst (bM (M.eP ns)))->Q (.ref r) J)->af6 T vs H Q E
structure C3 (H:aP)(aw:List (Key×V))(W:Lines):Prop where
 len:aw.length<=W.length
 ok:∀q:Bytes,((W.filter λ x=>aD x.2==q)=[]/\b4 aw (Sum.inr (st q))=none)\/
  ((W.filter λ x=>aD x.2==q)≠[]/\∃l,b4 aw (Sum.inr (st q))=some (.ref l)/\H l=some (.lst (br ((W.filter λ x=>aD x.2==q).map (·.1)))))
inductive af7:mD->Prop|mk{E}a ss t k:ν=[.ref a,.str (st t),.str (st k)]->fL T η a ss->ss.length<=1000->(∀d aw J,aH η J->η d=none->J d=some (.cT aw)->C3 J aw (M.h8 (nb ss) t k)->θ (.ref d) J)->af7 E
def v7 (W:Lines):Nat:=match W with
 |[]=>0
 |h::r=>((r.find? λ x=>bv x.2 !=bv h.2).map (·.1)).getD 0
inductive af8:mD->Prop|mk{E}a l ss W:ν=[.ref a,.ref l]->fL T η a ss->η l=some (.lst (br (W.map (·.1))))->(∀x∈W,x∈nb ss)->(∀J,aH η J->θ (.int (v7 W:Nat)) J)->af8 E
inductive af9:mD->Prop|mk{E}a ss:ν=[.ref a]->fL T η a ss->ss.length<=1000->(∀r J,aH η J->η r=none->J r=some (.lst (br ((M.d9 (nb ss)).getD [])))->θ (.ref r) J)->af9 E
inductive aga:mD->Prop|mk{E}l ss:ν=[.ref l]->gA T η l ss->ss.length<=1000->(∀J,aH η J->θ (.bg (M.d9 (nb ss)).isSome) J)->aga E
inductive T6:mD->Prop|mk{E}l ss:ν=[.ref l]->gA T η l ss->ss.length<=1000->(∀r J,aH η J->η r=none->J r=some (.lst (br ((M.fv ss).getD [])))->θ (.ref r) J)->T6 E
def agb:v7 (h::r)=(((h::r).find? λ x=>bv x.2 !=bv h.2).map (·.1)).getD 0:=by unfold v7;rw[io];simp
def agc {W:Lines}(nf:∀x∈W,x∈nb ss)(h:(W.filter λ x=>aD x.2==q).map (·.1)=(W.filter λ x=>aD x.2==eL).map (·.1))(aX:(W.filter λ x=>aD x.2==q)≠[]):q=eL:=by
 cases e:W.filter λ x=>aD x.2==q with
 |nil=>exact absurd e aX
 |cons x r=>
  have aa:x∈W.filter λ x=>aD x.2==q:=by rw[e];exact cn
  have hm:x.1∈(W.filter λ x=>aD x.2==eL).map (·.1):=by rw[<-h];exact cd.mpr ⟨x,aa,z⟩
  obtain⟨y,aC,dQ⟩:=cd.mp hm;obtain⟨a',a5⟩:=dX.mp aa;obtain⟨bn,cx⟩:=dX.mp aC;have:=M.n2 _ (nf y bn) _ (nf x a') dQ;subst this;exact(nJ a5).symm.trans (nJ cx)
def LP:∀x∈M.h8 (nb ss) t k,x∈nb ss:=λ x aa=>(M.Bm.mp aa).1
def T7:⇑7 1 T.sH (af6 T):=by
 refine bX T.sH.F HS λ H _ _ _ h=>?_;obtain⟨l,ns,rfl,ah,_,k⟩:=h;refine⟨z,λ _ _ _ _ ab a1 _=>?_⟩;intro X;refine⟨_,(aJ (bQ 1 HS.nd xB) (aJ (gs f1 z (eN (O 0)) (ib 2 HS.nd) (aN (Fk a1 (O 1) (O 2) w9 z))) (aN (a6 (acZ z T.CE (O 1)))))),?_⟩;intro d hd;have al:aH H (upd H d (.cT [])):=bp hd;refine⟨_,z,l,z,⟨_,aG.of (al _ _ ah)⟩,ha (K:=K) (a:=l) (xs:=bM ns) (λ i L J=>XL (λ v=>L=[some (.ref l),some (.ref d),v]) (aH H J) (J d=some (.cT (no (M.eP (ns.take i)))))) ⟨none,z,al,aI⟩ (λ i L J _ ⟨_,_,aq,_⟩=>aG.of (aq _ _ ah)) ?_ ?_⟩
 ·rintro i _ L J aj ⟨v,rfl,aq,ew⟩;intro A;obtain⟨b,Y,rfl⟩:=jt aj;refine⟨_,z,_,z,d,_,z,jP.k (k:=Sum.inr (st b)) ew (em ?_),_,z,ev aq hd,?_⟩
  ·unfold no;rw[be];have:=af5 (ns.take i);rw[c5] at this;omega
  ·rw[aI,af2,eH Y,M.Rd]
 ·rintro L J ⟨v,rfl,aq,ew⟩;rw[fj,fy] at ew;refine⟨_,z,d,_,z,ew,λ r ab=>k r _ (aq.trans (bp ab)) (aq.free ab) ?_⟩;rw[aI,af3]
def agd:⇑7 2 T.va (af8 T):=by
 refine bX T.va.F S8 λ H _ _ _ h=>?_;obtain⟨a,l,ss,W,rfl,aM,ah,nf,k⟩:=h;refine⟨z,λ _ _ _ _ ab _ _=>?_⟩;intro X;refine⟨_,(aJ (gs f1 z (eN (O 1)) (ib 2 S8.nd) (aN (cb (b9 Af (s2 T.bB T.oo (e4 T.bB T.c4 T.hI T.iZ (λ _ _ _=>rfl) (j9 T) ab (O 0) (U (O 2) ai))) (s2 T.bB T.oo (e4 T.bB T.c4 T.hI T.iZ (λ _ _ _=>rfl) (j9 T) ab (O 0) (U (hy jf (O 1) bc (λ _ _=>rfl)) ai))) (b7 _)) (aN (a6 (O 2))) cj))) (aN (a6 bc))),?_⟩;cases W with
 |nil=>refine⟨_,z,l,z,⟨_,aG.of ah⟩,ha (K:=K) (a:=l) (xs:=[]) (λ i L J=>J=H) z (λ i L J _ e=>by rw[e];exact aG.of ah) (λ i x L J h _=>by simp at h) ?_⟩;rintro L J e;rw[e];exact k H (aH.refl _)
 |cons h r=>
  rw[agb] at k;refine⟨_,z,l,z,⟨_,aG.of ah⟩,ha (K:=K) (a:=l) (xs:=br ((h::r).map (·.1))) (λ i L J=>XL (λ v=>L=[some (.ref a),some (.ref l),v]) (J=H) (∀j x,j<i->(h::r)[j]?=some x->(bv x.2 !=bv h.2)=false)) ⟨none,z,z,λ j x a0=>absurd a0 (p5 _)⟩ (λ i L J _ ⟨_,_,e,_⟩=>by rw[e];exact aG.of ah) ?_ ?_⟩
  ·rintro i y L J aj ⟨v,rfl,rfl,dK⟩;intro A;obtain⟨_,aB,rfl⟩:=s3 aj;rw[d5] at aB;cases ex:(h::r)[i]? with
   |none=>rw[ex] at aB;cases aB
   |some x=>
    rw[ex] at aB;cases aB;have aa:=nf x (gc ex);have b3:=nf h cn;refine⟨_,z,a,z,⟨ss,aM⟩,_,z,a,ss,x.1,x.2,z,aM,aa,λ b Y=>⟨b,x.2,z,Y,?_⟩⟩;refine⟨_,z,a,z,⟨ss,aM⟩,_,z,l,_,_,_,z,z,aG.of ah,at_of (j:=0) z z,a,ss,h.1,h.2,z,aM,b3,λ uj np=>⟨uj,h.2,z,np,z,_,z,?_⟩⟩;have ap:(!decide (V.int (bv x.2)=V.int (bv h.2)))=(bv x.2 !=bv h.2):=by rw[eW];simp
    rw[ap];refine bZ (λ q=>?_) (λ q=>?_)
    ·refine⟨_,z,?_⟩;have gZ:(h::r).find? (λ x=>bv x.2 !=bv h.2)=some x:=by
      rw[List.find?_eq_some_iff_append];refine⟨q,(h::r).take i,(h::r).drop (i+1),?_,λ y aC=>?_⟩;·rw[<-(c_.mp ex).2,<-ny,oM]
      ·obtain⟨j,a0⟩:=jz aC;have pH:=(c_.mp a0).1;rw[c5] at pH;rw[ts,aA ⇑1] at a0;rw[dK j y ⇑1 a0];rfl
     rw[gZ] at k;exact k _ (aH.refl _)
    ·refine⟨_,z,z,λ j y a0 aC=>?_⟩;by_cases e:j=i
     ·subst e;rw[ex] at aC;cases aC;simpa using q
     ·exact dK j y ⇑1 aC
  ·rintro L J ⟨v,rfl,rfl,dK⟩;have gZ:(h::r).find? (λ x=>bv x.2 !=bv h.2)=none:=by rw[zG];intro x aa;obtain⟨j,a0⟩:=jz aa;rw[dK j x (by rw[du,be];exact(c_.mp a0).1) a0];exact eo
   rw[gZ] at k;exact k _ (aH.refl _)
def age {H0 H:aP}(hd:H d=some (.cT aw))(af:C3 H aw W)(nf:∀y∈W++[x],y∈nb ss)(aK:H q1=some (.lst []))(CL:H0 q1=none)(bR:W.length<2000000)
  (aX:∀q l,b4 aw (Sum.inr (st q))=some (.ref l)->H0 l=none) (r5:∀q l,b4 aw (Sum.inr (st q))=some (.ref l)->l≠q1):
  ∃l J m_,CK H d (.str (st (aD x.2))) (.ref q1) (.ref l) J/\J l=some (.lst (br ((W.filter λ y=>aD y.2==aD x.2).map (·.1))))/\H0 l=none/\l≠d/\(∀c o,H c=some o->c≠d->J c=some o)/\
   ∀i0,i0 l=some (.lst (br ((W.filter λ y=>aD y.2==aD x.2).map (·.1))++[.int (x.1:Int)]))->(∀c o,J c=some o->c≠l->i0 c=some o)->i0 d=some (.cT m_)/\C3 i0 m_ (W++[x])/\∀q l,b4 m_ (Sum.inr (st q))=some (.ref l)->H0 l=none:=by
 have agf:∀y∈W,y∈nb ss:=λ y aC=>nf y (rj _ aC);have f8:∀q,((W++[x]).filter λ y=>aD y.2==q)=(W.filter λ y=>aD y.2==q)++if aD x.2=q then[x] else[]:=by
  intro q;rw[lw];congr 1;by_cases e:aD x.2=q;·rw[aA e];simp[e]
  ·rw[ay e];simp[e]
 rcases af.ok (aD x.2) with⟨a',a5⟩|⟨a',l,a5,bn⟩
 ·
  have LQ:=cw aK hd ⇑3;refine⟨q1,upd H d (.cT (putK aw (Sum.inr (st (aD x.2))) (.ref q1))),putK aw (Sum.inr (st (aD x.2))) (.ref q1),λ Q gD=>jZ.new (by have:=dV.k (k:=Sum.inr (st (aD x.2))) hd;rw[a5] at this;exact this) (jP.k (k:=Sum.inr (st (aD x.2))) hd ?_) gD,?_,CL,LQ,λ c o e ak=>bw e ak,?_⟩;·exact kR af.len (oU bR ⇑0)
  ·rw[a',dv LQ];exact aK
  ·intro i0 ap ao;refine⟨ao _ _ aI (λ B=>LQ B.symm),⟨?_,λ q=>?_⟩,λ q l h=>?_⟩
   ·rw[yO a5,cX];exact DV af.len
   ·rw[f8,sY a5];by_cases e:aD x.2=q
    ·subst e;rw[aA z,aA z];refine .inr ⟨⇑2,q1,z,?_⟩;rw[ap,db,iH];rfl
    ·rw[ay e,hr,ay (λ B=>e (jr (by injection B)).symm)];rcases af.ok q with h|⟨D,l,G,an⟩
     ·exact .inl h
     ·refine .inr ⟨D,l,G,ao _ _ (bw an (cw an hd ⇑3)) (r5 q l G)⟩
   ·rw[sY a5] at h;by_cases e:(Sum.inr (st q):Key)=Sum.inr (st (aD x.2))
    ·rw[aA e] at h;cases h;exact CL
    ·rw[ay e] at h;exact aX q l h
 ·refine⟨l,H,aw,λ Q gD=>jZ.old (by have:=dV.k (k:=Sum.inr (st (aD x.2))) hd;rw[a5] at this;exact this) gD,bn,aX _ l a5,cw bn hd ⇑3,λ c o e _=>e,?_⟩;intro i0 ap ao;refine⟨ao _ _ hd (λ B=>(cw bn hd ⇑3) B.symm),⟨by rw[cX];exact Oa af.len,λ q=>?_⟩,aX⟩;rw[f8];by_cases e:aD x.2=q
  ·subst e;rw[aA z];refine .inr ⟨⇑2,l,a5,?_⟩;rw[ap,db,iH];rfl
  ·rw[ay e,hr];rcases af.ok q with h|⟨D,iG,G,an⟩
   ·exact .inl h
   ·refine .inr ⟨D,iG,G,ao _ _ an (cw an bn λ B=>e ?_)⟩;exact(agc agf (Tq (gn.lst.inj B)) D).symm
def agg:⇑7 5 T.u' (af7 T):=by
 refine bX T.u'.F yf λ H _ _ _ h=>?_;obtain⟨a,ss,t,aQ,rfl,aM,bR,k⟩:=h;refine⟨z,λ _ _ _ _ ab a1 _=>?_⟩;intro X;refine⟨_,(aJ (bQ 3 yf.nd (e4 T.bB T.c4 T.qI T.yz (λ _ _ _=>rfl) (Ln T) ab (O 0) (U (b5 T.sU) (U (O 1) ai)))) (aJ (gs f1 z (eN (bf T.j4 T.l' (ox T) ab (U (O 0) (U (O 2) ai)))) (ib 4 yf.nd) (aN (eY (fX qY (O 3) (U (e4 T.bB T.c4 T.qI T.yz (λ _ _ _=>rfl) (Ln T) ab (O 0) (U (b5 T.yD) (U (O 4) ai))) ai))))) (aJ (bQ 5 yf.nd xB) (aJ (gs f1 z (eN (O 3)) (ib 6 yf.nd) (aN (eY (fX hK (Bo a1 (O 5) (hM T.bB T.gO (e4 T.bB T.c4 T.hI T.iZ (λ _ _ _=>rfl) (j9 T) ab (O 0) (U (O 6) ai))) (b_ ai) ⟨z,z,z,z⟩) (U (O 6) ai))))) (aN (a6 (O 5))))))),?_⟩;refine⟨_,z,a,z,⟨ss,aM⟩,_,z,a,ss,6,t,z,aM,λ l _ al me ah=>?_⟩;refine⟨_,z,_,z,a,ss,aQ,z,aM.same al,λ fM _ aq As hO=>?_⟩;have ed:=al.trans aq;have agh:=cy ah As;have y1:=C1 ss aQ;have fZ:∀f n,(numsOf ss f n).length<=1000:=λ f n=>cK (numsOf_len ss f n) bR;have T8:∀ks:List Bytes,(ks.flatMap λ m=>numsOf ss 7 m).length<=ks.length * 1000:=by
  intro ks;induction ks with
  |nil=>simp
  |cons m r ih=>rw[my,cX,cJ];have:=fZ 7 m;omega
 refine⟨fM,z,⟨_,aG.of hO⟩,ha (K:=K) (a:=fM) (xs:=bM (bF (nb ss) aQ)) (λ i L J=>SZ (λ v=>L=[some (.ref a),some (.str (st t)),some (.str (st aQ)),some (.ref l),v,none,none]) (aH H J) (J l=some (.lst (br (numsOf ss 6 t++((bF (nb ss) aQ).take i).flatMap λ m=>numsOf ss 7 m)))) (J fM=some (.lst (bM (bF (nb ss) aQ)))))
  ⟨none,z,ed,by rw[wN,Oi,hr];exact aq _ _ ah,hO⟩ (λ i L J _ ⟨_,_,_,_,q⟩=>aG.of q) ?_ ?_⟩
 ·rintro i y L J aj ⟨v,rfl,aO,ie,v8⟩;intro A;obtain⟨m,hm,rfl⟩:=jt aj;refine⟨_,z,.inl ⟨z,_,aG.of ie⟩,_,z,a,z,⟨ss,aM.same aO⟩,_,z,a,ss,7,m,z,aM.same aO,λ b _ bh _ Y=>⟨l,b,_,_,z,z,bh _ _ ie,Y,?_,?_⟩⟩
  ·rw[du,du,cX];have D:=fZ 6 t;have G:=fZ 7 m;have an:=T8 ((bF (nb ss) aQ).take i);rw[c5] at an;have aU:min i (bF (nb ss) aQ).length<=1001:=by omega
   refine cK (show _<=1000+1001 * 1000+1000 from ?_) ⇑0;have:min i (bF (nb ss) aQ).length * 1000<=1001 * 1000:=rl _ aU;omega
  ·refine⟨_,z,ev (aO.trans bh) me,?_,bw (bh _ _ v8) (λ B=>agh B.symm)⟩;rw[aI,eH hm,tr,<-iL,iH (numsOf ss 6 t++_)];simp
 ·rintro L J ⟨v,rfl,aO,ie,v8⟩;rw[fj,fy] at ie;have T9:numsOf ss 6 t++((bF (nb ss) aQ).flatMap λ m=>numsOf ss 7 m)=(M.h8 (nb ss) t aQ).map (·.1):=by unfold M.h8 numsOf;rw[db,DY]
  rw[T9] at ie;have agi:(M.h8 (nb ss) t aQ).length<2000000:=by have:=congrArg List.length T9;rw[be,cX] at this;have D:=fZ 6 t;have an:=T8 (bF (nb ss) aQ);have:(bF (nb ss) aQ).length * 1000<=1001 * 1000:=rl _ ⇑1;omega
  intro d hd;have nl:=aO.free hd;have bh:aH J (upd J d (.cT [])):=bp hd;refine⟨_,z,l,z,⟨_,aG.of (bh _ _ ie)⟩,ha (K:=K) (a:=l) (xs:=br ((M.h8 (nb ss) t aQ).map (·.1))) (λ i L i0=>∃(hn:Option V)(aw:List (Key×V)),L=[some (.ref a),some (.str (st t)),some (.str (st aQ)),some (.ref l),v,some (.ref d),hn]/\aH J i0/\i0 d=some (.cT aw)/\
    C3 i0 aw ((M.h8 (nb ss) t aQ).take i)/\(∀q c,b4 aw (Sum.inr (st q))=some (.ref c)->J c=none)) ⟨none,[],z,bh,aI,⟨cQ _,λ q=>.inl ⟨z,z⟩⟩,λ q c h=>by cases h⟩ (λ i L i0 _ ⟨_,_,_,q,_⟩=>aG.of (q _ _ ie)) ?_ ?_⟩
  ·rintro i y L y2 aj ⟨hn,aw,rfl,ck,q9,af,aX⟩;intro A;obtain⟨n,aB,rfl⟩:=s3 aj;rw[d5] at aB;cases ex:(M.h8 (nb ss) t aQ)[i]? with
   |none=>rw[ex] at aB;cases aB
   |some x=>
    rw[ex] at aB;cases aB;have aa:=LP x (gc ex);have T_:=aO.trans ck;refine⟨_,z,d,z,.inl ⟨aw,.inl q9⟩,_,z,a,z,⟨ss,aM.same T_⟩,_,z,a,ss,x.1,x.2,z,aM.same T_,aa,λ b Y=>⟨b,x.2,z,Y,cQ _,λ q1 sZ=>?_⟩⟩;have cm:aH y2 (upd y2 q1 (.lst [])):=bp sZ;obtain⟨c,bj,m_,v2,ap,ao,_,fe,fT⟩:=age (ss:=ss) (H0:=J) (H:=upd y2 q1 (.lst [])) (d:=d) (q1:=q1) (aw:=aw) (W:=(M.h8 (nb ss) t aQ).take i) (x:=x) (cm _ _ q9)
     ⟨af.len,λ q=>(af.ok q).imp_right λ⟨a',iG,a5,bn⟩=>⟨a',iG,a5,cm _ _ bn⟩⟩ (λ y aC=>by
      rcases eJ.mp aC with aC|aC;·exact LP y (NS aC)
      ·rw[dL.mp aC];exact aa) aI (ck.free sZ) (by rw[c5];omega) aX (λ q iG h=>by
       rcases af.ok q with⟨_,g⟩|⟨_,pb,a5,bn⟩;·rw[g] at h;cases h
       ·rw[a5] at h;cases h;exact cy bn sZ)
    refine v2 _ ⟨.inl ⟨z,_,aG.of ap⟩,_,z,c,_,_,z,z,ap,?_,?_⟩
    ·rw[du,be];refine kR (hR _ _) ?_;rw[c5];exact kR (Oc _ _) (oU agi ⇑0)
    ·obtain⟨e',eZ,eh⟩:=fT (upd bj c (.lst (br ((((M.h8 (nb ss) t aQ).take i).filter λ y=>aD y.2==aD x.2).map (·.1))++[.int (x.1:Int)]))) aI (λ _ o e ak=>bw e ak);refine⟨_,m_,z,λ _ o e=>bw (fe _ _ (cm _ _ (ck _ _ e)) (cy e hd)) (cy e ao),e',?_,eh⟩;rw[eH ex];exact eZ
  ·rintro L y2 ⟨hn,aw,rfl,ck,q9,af,aX⟩;rw[du,be,fy] at af;exact⟨_,z,k d aw y2 (aO.trans ck) nl q9 af⟩
def T' (aB:l.Nodup){ns:List Int}(ar:ns.Perm (l.map λ(n:Nat)=>(n:Int)))(au:ns.Pairwise (· <= ·)):ns.map V.int=br (Vbtaae.sortNums l):=by
 have hz:∀B∈ns,∃n:Nat,B=(n:Int):=λ B h=>by obtain⟨n,_,e⟩:=cd.mp (ar.mem_iff.mp h);exact⟨n,e.symm⟩
 have e:ns.map Int.toNat=Vbtaae.sortNums l:=by
  refine M.aaq ?_ ?_ aB
  ·have:=ar.map Int.toNat;rw[ht] at this;have ao:l.map (Int.toNat∘λ(n:Nat)=>(n:Int))=l:=by
    have:l.map (Int.toNat∘λ(n:Nat)=>(n:Int))=l.map id:=mu λ n _=>by simp
    rw[this,wT]
   rwa [ao] at this
  ·refine p0.mpr (au.imp_of_mem λ {a b} az Y _=>?_);obtain⟨n,rfl⟩:=hz a az;obtain⟨_,rfl⟩:=hz b Y;omega
 rw[<-e];unfold br;rw[ht];refine mu λ B h=>?_;obtain⟨n,rfl⟩:=hz B h;rfl
def Ua (h:n∈ig ss f k g):∃s,(n,s)∈nb ss/\ag s=f:=by
 unfold ig at h;by_cases e:k=g;·rw[aA e] at h;cases h
 ·rw[ay e] at h;obtain⟨_,aa,rfl⟩:=cd.mp (M.xT n h);obtain⟨s,D,G,_⟩:=yX aa;exact⟨s,D,G⟩
def LR (ss)(f)(k g):(ig ss f k g).Nodup:=by
 unfold ig;by_cases e:k=g;·rw[aA e];exact wL
 ·rw[ay e];exact M.FW (M.A1 M.n2 _ _ _)
def Ub (ss)(f)(k g):(ig ss f k g).length<=ss.length:=by
 have D:=LR ss f k g;have G:∀n∈ig ss f k g,n∈(nb ss).map (·.1):=λ n h=>by obtain⟨_,h,_⟩:=Ua h;exact cd.mpr ⟨_,h,z⟩
 have:=oL D G;rwa [be,ii] at this
def y3 (D:(n,s)∈nb ss)(G:(n,u)∈nb ss):s=u:=congrArg Prod.snd (M.n2 _ D _ G z)
def agj (aX:(ku,en)∈nb ss)(gG:ag en=5)(b3:h∈nb ss)(ala:ag h.2=6\/ag h.2=7)(aa:x∈nb ss)(jK:ag x.2=6\/ag x.2=7)(ne:bv x.2≠bv h.2):
  ([ku,h.1,x.1]++ig ss 2 k g).Nodup:=by
 have kj:ku≠h.1:=λ B=>by subst B;rw[y3 aX b3] at gG;omega
 have pa:ku≠x.1:=λ B=>by subst B;rw[y3 aX aa] at gG;omega
 have y4:h.1≠x.1:=λ B=>ne (by have:=M.n2 _ b3 _ aa B;rw[this])
 have agk:∀n∈ig ss 2 k g,n≠ku/\n≠h.1/\n≠x.1:=λ n aB=>by
  obtain⟨_,D,G⟩:=Ua aB;refine⟨λ B=>?_,λ B=>?_,λ B=>?_⟩;·subst B;rw[y3 D aX] at G;omega
  ·subst B;rw[y3 D b3] at G;omega
  ·subst B;rw[y3 D aa] at G;omega
 rw[zJ];refine⟨?_,LR _ _ _ _,?_⟩;·simp[kj,pa,y4]
 ·intro a az _ Y e;subst e;have:=agk a Y;simp only[bN,kS,kT] at az;rcases az with rfl|rfl|rfl
  ·exact this.1 z
  ·exact this.2.1 z
  ·exact this.2.2 z
def agl (ss)(ku)(k)(W)(nf:∀x∈W,x∈nb ss):(v7 W=0/\M.iy (nb ss) ku k W=none)\/
  ∃h r x,W=h::r/\x∈r/\bv x.2≠bv h.2/\v7 W=x.1/\0<x.1/\M.iy (nb ss) ku k W=some (Vbtaae.sortNums ([ku,h.1,x.1]++ig ss 2 k (aF x.2))):=by
 cases W with
 |nil=>exact .inl ⟨z,z⟩
 |cons h r=>
  unfold v7 M.iy;dsimp only;cases e:r.find? λ x=>bv x.2 !=bv h.2 with
  |none=>exact .inl ⟨z,z⟩
  |some x=>have D:=wt e;have G:=wJ e;exact .inr ⟨h,r,x,z,D,↥G,z,pD (nf x (cu _ D)),z⟩
def Uc (h:M.d9 ls=some t):t≠[]:=by
 unfold M.d9 at h;obtain⟨a,_,h⟩:=mq h;unfold M.ph at h;cases e:a7 ls 5 a with
 |none=>rw[e] at h;cases h
 |some x=>
  rw[e] at h;dsimp only at h;obtain⟨_,_,h⟩:=mq h;unfold M.iy at h;split at h;·cases h
  ·obtain⟨_,_,rfl⟩:=lv.mp h;intro B;have hz:∀n,n∉Vbtaae.sortNums _:=λ n=>by rw[B];simp
   exact hz x.1 (M.pf.mpr (rj _ cn))
def Ud:⇑7 6 T.sI (af9 T):=by
 refine bX T.sI.F kB λ H vs Q E h=>?_;obtain⟨a,ss,rfl,aM,bR,k⟩:=h;refine⟨z,λ _ _ _ en ab a1 oC=>?_⟩;intro X;refine⟨_,(aJ (bQ 1 kB.nd (bf T.sH T.B8 (T7 T) ab (U (jg z kB.nd (eN (yV T.bB T.c4 T.oi (O 0))) (hB (own:=[("line",10)]) z) (λ _ _ _ _ _=>(gF (i:=10) kB.nd z (Or.inl z) (Or.inr z))) (λ _ _ _ _ _=>r0 (b9 eG (hL T.bB T.gN (O 10)) (b5 T.mb) (b7 _))) (λ _ _ _ _ _=>(js T.bB T.ia (O 10)))) ai))) (aJ (bQ 2 kB.nd (bf T.sH T.B8 (T7 T) ab (U (jg z kB.nd (eN (yV T.bB T.c4 T.oi (O 0))) (hB (own:=[("line",10)]) z) (λ _ _ _ _ _=>(gF (i:=10) kB.nd z (Or.inl z) (Or.inr z))) (λ _ _ _ _ _=>r0 (b9 (CV (K:=K) z) (hL T.bB T.gN (O 10)) (gT (U (b5 T.sU) (U (b5 T.yD) ai))) z)) (λ _ _ _ _ _=>(hM T.bB T.gO (O 10)))) ai))) (aJ (gs f1 z (eN (O 1)) (ib 3 kB.nd) (aJ (bQ 4 kB.nd (e4 T.bB T.c4 T.jo T.lh (λ _ _ _=>rfl) (nk T) ab (O 0) (U (b5 T.mb) (U (O 3) ai)))) (aJ (bQ 5 kB.nd (hM T.bB T.gO (e4 T.bB T.c4 T.hI T.iZ (λ _ _ _=>rfl) (j9 T) ab (O 0) (U (O 4) ai)))) (aJ (bQ 6 kB.nd (bf T.u' T.Jd (agg T) ab (U (O 0) (U (O 3) (U (O 5) ai))))) (aN (gs f1 z (eN (O 2)) (ib 7 kB.nd) (aJ (bQ 8 kB.nd (bf T.va T.Je (agd T) ab (U (O 0) (U (qo a1 (O 6) (O 7) (b_ ai) ⟨z,z,z,z⟩) ai)))) (aN (cb (b9 fO (O 8) bc (b7 _)) (aJ (bQ 9 kB.nd (bf T.sB T.B3 (TK T) ab (U (O 0) (U (b5 T.ot) (U (O 5) (U (js T.bB T.ia (e4 T.bB T.c4 T.hI T.iZ (λ _ _ _=>rfl) (j9 T) ab (O 0) (U (O 8) ai))) ai)))))) (aN (a6 (dJ Sn z T.sX boot_sorted (U (e0 jL (b_ (U (O 4) (U (hy jf (Fj a1 (O 6) (O 7) (λ _ _=>rfl)) bc (λ _ _=>rfl)) (U (O 8) ai)))) (O 9)) ai))))) cj))))))))) (aN (a6 (b_ ai)))))),?_⟩;obtain⟨as,v9⟩:=id aM;have a8:=(let ⟨_,_,_,_,_,_,R⟩:=v9;R.kE:dg T.da H as ss);refine⟨_,z,a,as,ss,z,v9,λ av fw=>⟨av,z,⟨_,aG.of fw⟩,λ af cr=>?_⟩⟩;refine km (K:=K) (a:=av) (xs:=as.map V.ref) (fY H af (pick ss (λ s=>ag s==5) λ s=>.str (st (aF s)))) (.start cr z) (λ i J _ h=>aG.of (h.1 _ _ fw)) ?_ ?_
 ·rintro i x J aj h;rw[d5] at aj;cases ej:as[i]? with
  |none=>rw[ej] at aj;cases aj
  |some b=>
   rw[ej] at aj;cases aj;obtain⟨bD,ae,oB⟩:=a8.get ej;have nm:=oB.same h.1;refine⟨z,_,z,b,bD,z,nm,z,_,z,?_⟩;refine bZ (λ q=>?_) (λ q=>?_);·exact⟨_,z,b,bD,z,nm,h.step cr (aH.refl _) (LA ae (by have:=(oy 5).mp q;simp[this])) (em (by have:=LC ss (λ s=>ag s==5) (λ s=>.str (st (aF s))) i;omega))⟩
   ·exact h.skip (aH.refl _) (LB ae (by have:¬ag bD=5:=λ B=>q ((oy 5).mpr B);simp[this]))
 rintro H1 ⟨al,kj⟩;rw[be,LD _ _ _ a8.len] at kj;have xX:((nb ss).filter λ x=>ag x.2==5).map (λ x=>V.str (st (aF x.2)))=bM (M.h7 (nb ss)):=by unfold bM M.h7;rw[ht];rfl
 rw[xX] at kj;have alb:(M.h7 (nb ss)).length<=1000:=by unfold M.h7;rw[be];exact cK (hR _ _) (by rw[ii];exact bR)
 have alc:(M.jV (nb ss)).length<=1000:=by unfold M.jV;rw[be];exact cK (hR _ _) (by rw[ii];exact bR)
 refine⟨af,_,z,kj,⇑1,λ bl aE aq ald y5=>?_⟩;have ed:=al.trans aq;refine⟨_,z,a,as,ss,z,v9.same ed,λ Ue Uf=>⟨Ue,z,⟨_,aG.of Uf⟩,λ y6 Ug=>?_⟩⟩;refine km (K:=K) (a:=Ue) (xs:=as.map V.ref) (fY aE y6 (pick ss (λ s=>ag s==6||ag s==7) λ s=>.str (st (aD s)))) (.start Ug z) (λ i J _ h=>aG.of (h.1 _ _ Uf)) ?_ ?_
 ·rintro i x J aj h;rw[d5] at aj;cases ej:as[i]? with
  |none=>rw[ej] at aj;cases aj
  |some b=>
   rw[ej] at aj;cases aj;obtain⟨bD,ae,oB⟩:=a8.get ej;have nm:=oB.same (ed.trans h.1);refine⟨z,_,z,b,bD,z,nm,hv,λ p ar=>⟨p,_,z,.inr (dh.of aI),z,z,_,z,?_⟩⟩;have aO:aH J (upd J p (.tup [.int 6,.int 7])):=bp ar;refine bZ (λ q=>?_) (λ q=>?_)
   ·have agm:ag bD=6\/ag bD=7:=by have:=q7.mp q;omega
    exact⟨_,z,b,bD,z,nm.same aO,h.step Ug aO (LA ae ↥agm) (em (by have:=LC ss (λ s=>ag s==6||ag s==7) (λ s=>.str (st (aD s))) i;omega))⟩
   ·exact h.skip aO (LB ae (by have:¬(ag bD=6\/ag bD=7):=λ B=>q (q7.mpr ⇑1);simpa using this))
 rintro bj ⟨aO,y4⟩;rw[be,LD _ _ _ a8.len] at y4;have eq:((nb ss).filter λ x=>ag x.2==6||ag x.2==7).map (λ x=>V.str (st (aD x.2)))=bM (M.jV (nb ss)):=by unfold bM M.jV;rw[ht];rfl
 rw[eq] at y4;refine⟨y6,_,z,y4,⇑1,λ nq b1 bh LS v_=>?_⟩;have q_:=(ed.trans aO).trans bh;have Uh:=bh _ _ (aO _ _ y5);refine⟨_,z,bl,z,⟨_,aG.of Uh⟩,ha (K:=K) (a:=bl) (xs:=bM (M.eP (M.h7 (nb ss)))) (λ i L J=>BT λ hP dE e5=>BT λ hn lm y7=>XL (λ y8=>L=[some (.ref a),some (.ref bl),some (.ref nq),hP,dE,e5,hn,lm,y7,y8,none]) (aH b1 J) (∀j t,j<i->(M.eP (M.h7 (nb ss)))[j]?=some t->M.ph (nb ss) t=none))
  ⟨none,none,none,none,none,none,none,z,aH.refl _,λ j t a0=>absurd a0 (p5 _)⟩ (λ i L J _ ⟨_,_,_,_,_,_,_,_,q,_⟩=>aG.of (q _ _ Uh)) ?_ ?_⟩
 ·rintro i y L J aj ⟨hP,dE,e5,hn,lm,y7,y8,rfl,ck,dK⟩;intro A;obtain⟨t,a_,rfl⟩:=jt aj;have Ui:=M.aaD.mp (gc a_);obtain⟨en,el,Uj,pJ,Ag,q'⟩:∃en,a7 (nb ss) 5 t=some (eT ss 5 t,aD en)/\0<eT ss 5 t/\(eT ss 5 t,en)∈nb ss/\ag en=5/\aF en=t:=by
   rcases yW (ss:=ss) (f:=5) (k:=t) with⟨e,_⟩|h
   ·exfalso;unfold M.h7 at Ui;obtain⟨x,aa,ex⟩:=cd.mp Ui;obtain⟨a',a5⟩:=dX.mp aa;unfold a7 at e;rw[tl,M.kt] at e;have:=e x a';rw[M.fK.mpr ⟨↥a5,ex⟩] at this;cases this
   ·exact h
  have LU:=q_.trans ck;refine⟨_,z,a,z,⟨ss,aM.same LU⟩,_,z,a,ss,5,t,z,aM.same LU,λ fI cm=>?_⟩;have C4:=LU.trans cm;refine⟨_,z,a,z,⟨ss,aM.same C4⟩,_,z,a,ss,_,en,z,aM.same C4,pJ,λ b Y=>⟨b,en,z,Y,?_⟩⟩;refine⟨_,z,_,z,_,z,a,ss,t,aD en,z,aM.same C4,bR,λ d aw g_ ei nl hd cr=>?_⟩;have agn:=C4.trans ei;have Uk:=ei _ _ (cm _ _ (ck _ _ v_));have Ul:M.ph (nb ss) t=(M.eP (M.jV (nb ss))).findSome? λ q=>M.iy (nb ss) (eT ss 5 t) (aD en) (M.gi (nb ss) t (aD en) q):=by unfold M.ph;rw[el]
  refine⟨_,z,nq,z,⟨_,aG.of Uk⟩,ha (K:=K) (a:=nq) (xs:=bM (M.eP (M.jV (nb ss)))) (λ dm L i0=>∃lm y7,XL (λ y8=>L=[some (.ref a),some (.ref bl),some (.ref nq),some (.str (st t)),some (.int (eT ss 5 t:Nat)),some (.str (st (aD en))),some (.ref d),lm,y7,y8,none]) (aH g_ i0) (∀j q,j<dm->(M.eP (M.jV (nb ss)))[j]?=some q->M.iy (nb ss) (eT ss 5 t) (aD en) (M.gi (nb ss) t (aD en) q)=none))
   ⟨_,_,_,z,aH.refl _,λ j t a0=>absurd a0 (p5 _)⟩ (λ i L J _ ⟨_,_,_,_,q,_⟩=>aG.of (q _ _ Uk)) ?_ ?_⟩
  ·rintro dm uD c' jO lc ⟨rM,ago,agp,rfl,fp,C5⟩;intro A;obtain⟨q,aK,rfl⟩:=jt lc;have agq:=agn.trans fp;refine⟨_,z,_,z,d,z,.inl ⟨aw,.inl (fp _ _ hd)⟩,_,z,cQ _,λ p ar=>?_⟩;have gY:aH jO (upd jO p (.lst [])):=bp ar;have Um:=agq.trans gY;have y9:∀x∈M.gi (nb ss) t (aD en) q,x∈nb ss:=λ x aa=>LP x (dX.mp aa).1;have y_:∃pK,dV (upd jO p (.lst [])) d (.str (st q)) (if M.gi (nb ss) t (aD en) q=[] then none else some (.ref pK))/\(M.gi (nb ss) t (aD en) q≠[]->upd jO p (.lst []) pK=some (.lst (br ((M.gi (nb ss) t (aD en) q).map (·.1))))):=by
    have g:=dV.k (k:=Sum.inr (st q)) (gY _ _ (fp _ _ hd));rcases cr.ok q with⟨a',a5⟩|⟨a',l,a5,bn⟩
    ·rw[a5] at g;exact⟨p,by rw[aA (show M.gi (nb ss) t (aD en) q=[] from a')];exact g,λ B=>absurd a' B⟩
    ·rw[a5] at g;exact⟨l,by rw[ay (show ¬M.gi (nb ss) t (aD en) q=[] from a')];exact g,λ _=>gY _ _ (fp _ _ bn)⟩
   obtain⟨pK,g,oA⟩:=y_;refine⟨_,g,?_⟩;have agr:∃C6,((if M.gi (nb ss) t (aD en) q=[] then none else some (V.ref pK)).getD (.ref p))=.ref C6/\upd jO p (.lst []) C6=some (.lst (br ((M.gi (nb ss) t (aD en) q).map (·.1)))):=by
    by_cases e:M.gi (nb ss) t (aD en) q=[];·rw[aA e];exact⟨p,z,by rw[e];exact aI⟩
    ·rw[ay e];exact⟨pK,z,oA e⟩
   obtain⟨C6,ap,ao⟩:=agr;rw[ap];refine⟨a,C6,ss,_,z,aM.same Um,ao,y9,λ xz iS=>?_⟩;have C7:=Um.trans iS;refine⟨_,z,_,_,z,z,_,z,?_⟩;rcases agl ss (eT ss 5 t) (aD en) (M.gi (nb ss) t (aD en) q) y9 with⟨dp,dS⟩|⟨h,r,x,dp,dS,fD,hj,l2,si⟩
   ·rw[dp];refine bZ (λ B=>absurd B ⇑0) (λ _=>⟨_,_,_,z,(fp.trans gY).trans iS,λ j bb a0 nn=>?_⟩);by_cases LV:j=dm
    ·subst LV;rw[aK] at nn;cases nn;exact dS
    ·exact C5 j bb ⇑1 nn
   ·rw[hj];refine bZ (λ _=>?_) (λ B=>absurd (by simp;omega) B);have ek:M.gi (nb ss) t (aD en) q≠[]:=by rw[dp];exact oS _ _
    rw[ay ek] at g;have LW:x∈M.gi (nb ss) t (aD en) q:=by rw[dp];exact cu _ dS
    have Un:h∈M.gi (nb ss) t (aD en) q:=by rw[dp];exact cn
    have Bs:∀B∈M.gi (nb ss) t (aD en) q,ag B.2=6\/ag B.2=7:=λ B hz=>by
     rcases (M.Bm.mp (dX.mp hz).1).2 with e|e;·exact .inl e.1
     ·exact .inr e.1
    refine⟨_,z,_,z,_,z,a,z,⟨ss,aM.same C7⟩,_,z,a,ss,x.1,x.2,z,aM.same C7,y9 x LW,λ c ak=>⟨c,x.2,z,ak,a,ss,2,aD en,aF x.2,z,aM.same C7,λ sl ud Ax Uo jm=>?_⟩⟩;have LX:dV ud d (.str (st q)) (some (.ref pK)):=by
     have:=dV.k (k:=Sum.inr (st q)) (Ax _ _ (iS _ _ (gY _ _ (fp _ _ hd))));rcases cr.ok q with⟨a',a5⟩|⟨a',l,a5,bn⟩
     ·exact absurd a' ek
     ·rw[a5] at this;have fr:=dV.k (k:=Sum.inr (st q)) (gY _ _ (fp _ _ hd));rw[a5] at fr;have:l=pK:=by
       rcases g with⟨ale,f3,ap,ao,bz⟩|⟨_,_,_,_,_,_,_⟩
       ·have iw:(Sum.inr (st q):Key)=f3:=Fg ao;subst iw;rcases ap with ap|⟨_,ap⟩
        ·rw[gY _ _ (fp _ _ hd)] at ap;cases ap;rw[a5] at bz;cases bz;rfl
        ·rw[gY _ _ (fp _ _ hd)] at ap;cases ap
       ·rename_i ap _ _ _;rcases ap with ap|⟨_,ap⟩
        ·rw[gY _ _ (fp _ _ hd)] at ap;cases ap
        ·rw[gY _ _ (fp _ _ hd)] at ap;cases ap
      subst this;assumption
    have ags:ud pK=some (.lst (br ((h::r).map (·.1)))):=by rw[<-dp];exact Ax _ _ (iS _ _ (oA ek))
    refine⟨_,z,_,z,_,z,d,_,z,LX,pK,_,_,_,z,z,aG.of ags,at_of (j:=0) (v:=.int (h.1:Int)) z z,_,z,i8,λ fP iv=>?_⟩;have Up:aH ud (upd ud fP (.lst [.int (eT ss 5 t:Nat),.int (h.1:Int),.int (x.1:Int)])):=bp iv;have alf:=Ub ss 2 (aD en) (aF x.2);refine⟨_,z,fP,sl,_,_,z,z,aI,Up _ _ jm,(by rw[du];exact gP (by simp;omega)),λ m' oz=>?_⟩;have i2:=Up.trans (bp (o:=.lst ([.int (eT ss 5 t:Nat),.int (h.1:Int),.int (x.1:Int)]++br (ig ss 2 (aD en) (aF x.2)))) oz);have hE:([V.int (eT ss 5 t:Nat),.int (h.1:Int),.int (x.1:Int)]++br (ig ss 2 (aD en) (aF x.2)))=(([eT ss 5 t,h.1,x.1]++ig ss 2 (aD en) (aF x.2)).map λ(n:Nat)=>(n:Int)).map V.int:=by rw[<-CZ,iH];rfl
    refine⟨m',_,z,aG.of (by rw[aI,hE]),λ ns x9 agt au y'=>?_⟩;have Uq:=C7.trans Ax;refine k x9 _ ((Uq.trans i2).trans (bp y')) ((Uq.trans i2).free y') ?_;rw[aI,T' (agj pJ Ag (y9 h Un) (Bs h Un) (y9 x LW) (Bs x LW) fD) agt au];have LY:M.d9 (nb ss)=some (Vbtaae.sortNums ([eT ss 5 t,h.1,x.1]++ig ss 2 (aD en) (aF x.2))):=by
     unfold M.d9;rw[zx];refine⟨(M.eP (M.h7 (nb ss))).take i,t,(M.eP (M.h7 (nb ss))).drop (i+1),?_,?_,λ t' pL=>?_⟩;·rw[<-(c_.mp a_).2,<-ny,oM]
     ·rw[Ul,zx];refine⟨(M.eP (M.jV (nb ss))).take dm,q,(M.eP (M.jV (nb ss))).drop (dm+1),?_,si,λ eL iR=>?_⟩
      ·rw[<-(c_.mp aK).2,<-ny,oM]
      ·obtain⟨j,a0⟩:=jz iR;have pH:=(c_.mp a0).1;rw[c5] at pH;rw[ts,aA ⇑1] at a0;exact C5 j eL ⇑1 a0
     ·obtain⟨j,a0⟩:=jz pL;have pH:=(c_.mp a0).1;rw[c5] at pH;rw[ts,aA ⇑1] at a0;exact dK j t' ⇑1 a0
    rw[LY];rfl
  ·rintro c' jO ⟨rM,ago,agp,rfl,fp,C5⟩;refine⟨_,_,_,_,_,_,_,z,((ck.trans cm).trans ei).trans fp,λ j t' a0 pL=>?_⟩;by_cases LV:j=i
   ·subst LV;rw[a_] at pL;cases pL;rw[Ul,tj];intro q aK;obtain⟨uS,qE⟩:=jz aK;exact C5 uS q (by rw[fj];exact(c_.mp qE).1) qE
   ·exact dK j t' ⇑1 pL
 ·rintro L J ⟨hP,dE,e5,hn,lm,y7,y8,rfl,ck,dK⟩;refine⟨cQ _,λ r ab=>k r _ ((q_.trans ck).trans (bp ab)) ((q_.trans ck).free ab) ?_⟩;have LY:M.d9 (nb ss)=none:=by unfold M.d9;rw[tj];intro t a_;obtain⟨j,a0⟩:=jz a_;exact dK j t (by rw[fj];exact(c_.mp a0).1) a0
  rw[LY];exact aI
def Ur:⇑7 7 T.sJ (aga T):=by
 refine bX T.sJ.F aej λ _ _ _ _ h=>?_;obtain⟨l,ss,rfl,ah,bR,k⟩:=h;refine⟨z,λ _ _ _ _ ab _ _=>?_⟩;intro X;refine⟨_,(aN (a6 (hX fO (dJ fJ z T.eu eK (U (bf T.sI T.B9 (Ud T) ab (U (mf T.hk T.j5 T.j6 (mg T) ab (U (O 0) ai)) ai)) ai)) bc (b7 _)))),?_⟩;obtain⟨as,D,G⟩:=ah;refine⟨_,z,l,ss,z,⟨as,D,G⟩,⇑1,λ p _ al _ aM=>⟨p,ss,z,aM,bR,λ r aE aq _ ab=>⟨r,_,z,.inl (aG.of ab),_,_,z,z,?_⟩⟩⟩;dsimp only;rw[du];have e:decide ((0:Int)<(((M.d9 (nb ss)).getD []).length:Nat))=(M.d9 (nb ss)).isSome:=by
  cases q:M.d9 (nb ss) with
  |none=>rfl
  |some t=>have:=pY.mpr (Uc q);simp;omega
 rw[e];exact k aE (al.trans aq)
def LZ (xs)(m:Nat):lK xs none (some (m:Int))=xs.take m:=by
 unfold lK c8.dn;dsimp only;rw[ay ⇑1,wM,Nat.sub_zero,N6];by_cases h:m<=xs.length;·rw[rp h]
 ·rw[Of ⇑1,rh (bG _),rh ⇑1]
def dg.take (h:dg aZ H as ss)(m):dg aZ H (as.take m) (ss.take m):=by
 refine⟨by rw[c5,c5,h.len],λ i a s ap ao=>?_⟩;rw[ts] at ap ao;by_cases q:i<m;·rw[aA q] at ap ao;exact h.at_ i a s ap ao
 ·rw[ay q] at ap;cases ap
def gB:Nat->Str
 |1=>"kind"|2=>"quality"|3=>"number"|4=>"thing"|_=>""
def Us (f):M.gx f<=4:=by unfold M.gx;split<;>decide
def Ut (f):M.dR f<=4:=by unfold M.dR;split<;>decide
def agu (az:a<=4)(Y:b<=4)(h:gB a=gB b):a=b:=by
 have key:∀a,a<=4->∀b,b<=4->gB a=gB b->a=b:=by decide+kernel
 exact key a az b Y h
structure oD (H0 H:aP)(d:Addr)(ls:Lines):Prop where
 ex:∃aw,H d=some (.cT aw)/\aw.length<=2 * ls.length/\∀n:Bytes,(M.pl ls n=none/\b4 aw (Sum.inr (st n))=none)\/∃p j tp,M.pl ls n=some (p,j)/\p<=4/\b4 aw (Sum.inr (st n))=some (.ref tp)/\H tp=some (.tup [.str (gB p),.int (j:Int)])
 own:H0 d=none
def oD.same (h:oD H0 H d ls)(k:aH H J):oD H0 J d ls:=by obtain⟨⟨aw,D,G,an⟩,aU⟩:=h;exact⟨⟨aw,k _ _ D,G,λ n=>(an n).imp_right λ⟨p,j,tp,a',a5,bn,cx⟩=>⟨p,j,tp,a',a5,bn,k _ _ cx⟩⟩,aU⟩
def j_ (o:Option (Nat×List Nat)):List Nat:=match o with
 |some c=>c.1::c.2
 |none=>[]
inductive agv:mD->Prop|mk{E}b s:ν=[.ref b]->ou T η b s->(∀J,aH η J->θ (.int ((if aF s=aD s then M.h6 s else 0:Nat):Int)) J)->agv E
inductive agw:mD->Prop|mk{E}b s:ν=[.ref b]->ou T η b s->(∀l fR cG J,aH η J->η l=none->J l=some (.lst [.ref fR,.ref cG])->J fR=some (.tup [.str (st (aF s)),.str (gB (M.gx (ag s)))])->J cG=some (.tup [.str (st (aD s)),.str (gB (M.dR (ag s)))])->θ (.ref l) J)->agw E
inductive agx:mD->Prop|mk{E}H0 d b ls s:ν=[.ref d,.ref b]->oD H0 η d ls->ou T η b s->(∀J,aH η J->θ (.int (((M.pp ls s).getD 0:Nat):Int)) J)->agx E
inductive agy:mD->Prop|mk{E}a b ss s:ν=[.ref a,.ref b]->fL T η a ss->ou T η b s->(∀J,aH η J->θ (.int ((((M.k9 (nb ss) s).map (·.1)).getD 0:Nat):Int)) J)->agy E
inductive agz:mD->Prop|mk{E}a b ss s:ν=[.ref a,.ref b]->fL T η a ss->ou T η b s->¬aF s=aD s->(∀l J,aH η J->η l=none->J l=some (.lst (br (M.ff (nb ss) s)))->θ (.ref l) J)->agz E
inductive agA:mD->Prop|mk{E}H0 a d b ss s:ν=[.ref a,.ref d,.ref b]->fL T η a ss->oD H0 η d (nb ss)->ou T η b s->(∀l J,aH η J->η l=none->J l=some (.lst (br (j_ (M.uE (nb ss) (ss.length+1) s))))->θ (.ref l) J)->agA E
def agB:⇑7 8 T.vb (T6 T):=by
 refine bX T.vb.F uY λ H _ _ _ h=>?_;obtain⟨l,ss,rfl,ah,bR,k⟩:=h;refine⟨z,λ _ _ _ _ ab _ _=>?_⟩;intro X;refine⟨_,(aJ (cb (iO (gE (bf T.sJ T.B_ (Ur T) ab (U (O 0) ai)))) (aN (a6 (b_ ai))) cj) (aJ (bQ 1 uY.nd bc) (aJ (bQ 2 uY.nd (dJ fJ z T.eu eK (U (O 0) ai))) (aJ (Ey f1 (b9 fO (e0 o4 (O 2) (O 1)) bc (b7 _)) (aJ (bQ 3 uY.nd (e0 Xi (e0 rN (O 1) (O 2)) bc)) (aN (cb (gE (bf T.sJ T.B_ (Ur T) ab (U (rX xm (O 0) t6 (qf (O 3))) ai))) (aN (bQ 2 uY.nd (O 3))) (aN (bQ 1 uY.nd (O 3))))))) (aN (a6 (bf T.sI T.B9 (Ud T) ab (U (mf T.hk T.j5 T.j6 (mg T) ab (U (rX xm (O 0) t6 (qf (O 2))) ai)) ai)))))))),?_⟩;obtain⟨as,D,G⟩:=ah;refine⟨_,z,l,ss,z,⟨as,D,G⟩,bR,λ _ al=>⟨_,z,?_⟩⟩;cases q:M.d9 (nb ss) with
 |none=>refine df ⟨cQ _,λ r ab=>k r _ (al.trans (bp ab)) (al.free ab) ?_⟩;rw[M.abZ q];exact aI
 |some alg=>
  refine c7 ?_;refine⟨_,z,l,_,z,.inl (aG.of (al _ _ D)),?_⟩;rw[be,G.len];have agC:M.d9 (nb (ss.take 0))=none:=rfl;have agD:(M.d9 (nb (ss.take ss.length))).isSome=true:=by rw[fy,q];rfl
  refine⟨λ m L J=>∃(gg dP:Nat)(v:Option V),L=[some (.ref l),some (.int (gg:Int)),some (.int (dP:Int)),v]/\aH H J/\gg<=dP/\dP<=ss.length/\M.d9 (nb (ss.take gg))=none/\(M.d9 (nb (ss.take dP))).isSome=true/\m=dP - gg,⟨_,0,ss.length,none,z,al,cQ _,bG _,agC,agD,z⟩,?_⟩;rintro m L J ⟨gg,dP,v,rfl,aq,lQ,agE,hw,a_,rfl⟩;have c6:gg<dP:=N4 lQ λ B=>by subst B;rw[hw] at a_;cases a_
  refine⟨_,z,_,z,_,_,z,z,_,_,z,z,_,z,bZ (λ ak=>?_) (λ ak=>?_)⟩
  ·have ak:1<dP - gg:=by
    have:(1:Int)<(dP:Int) - (gg:Int):=by simpa using ak
    omega
   refine⟨λ cf i0=>∃cP,cP<dP - gg/\_,λ cf i0 h=>h,?_⟩;refine⟨_,z,_,z,_,_,z,z,_,_,z,z,⟨⇑0,⇑0⟩,?_⟩;have agF:((gg:Int)+(dP:Int)) / 2=(((gg+dP) / 2:Nat):Int):=by omega
   dsimp only;rw[agF];generalize alh:(gg+dP) / 2=mid;refine⟨_,z,_,z,_,z,l,_,z,aG.of (aq _ _ D),λ p ar=>?_⟩;rw[LZ,<-wQ];have aO:aH J (upd J p (.lst ((as.take mid).map V.ref))):=bp ar;have ln:=aq.trans aO;refine⟨p,ss.take mid,z,⟨as.take mid,aI,(G.take mid).same ln⟩,by rw[c5];omega,λ bj bh=>⟨_,z,?_⟩⟩;cases Uu:M.d9 (nb (ss.take mid)) with
   |none=>refine c7 ⟨_,z,dP - mid,⇑1,mid,dP,_,z,ln.trans bh,⇑1,agE,Uu,a_,z⟩
   |some fR=>refine df ⟨_,z,mid - gg,⇑1,gg,mid,_,z,ln.trans bh,⇑1,⇑1,hw,by rw[Uu];rfl,z⟩
  ·have ak:dP=gg+1:=by
    have:¬(1:Int)<(dP:Int) - (gg:Int):=by simpa using ak
    omega
   subst ak;refine⟨_,z,_,z,_,z,l,_,z,aG.of (aq _ _ D),λ p ar=>?_⟩;rw[LZ,<-wQ];have aO:aH J (upd J p (.lst ((as.take (gg+1)).map V.ref))):=bp ar;have ln:=aq.trans aO;refine⟨p,ss.take (gg+1),z,⟨as.take (gg+1),aI,(G.take (gg+1)).same ln⟩,by rw[c5];omega,λ gv bj bh _ aM=>⟨gv,ss.take (gg+1),z,aM,by rw[c5];omega,λ r b1 ck ho ab=>?_⟩⟩;obtain⟨fR,iT⟩:=jy.mp a_;refine k r b1 ((ln.trans bh).trans ck) ((ln.trans bh).free ho) ?_;rw[ab,iT,M.ab0 hw iT]
def agG:⇑7 1 T.vc (agv T):=by
 refine bX T.vc.F aek λ H _ _ _ h=>?_;obtain⟨b,s,rfl,a8,k⟩:=h;refine⟨z,λ _ _ _ _ _ _ _=>?_⟩;intro X;refine⟨_,(aJ (cb (b9 Af (js T.bB T.ia (O 0)) (hM T.bB T.gO (O 0)) (b7 _)) (aN (a6 bc)) cj) (aN (a6 (acr (li T.vS) (hL T.bB T.gN (O 0)) (b5 T.Cu) ⟨z,z,z,z⟩)))),?_⟩;refine⟨_,z,b,s,z,a8,_,z,b,s,z,a8,z,_,z,?_⟩;by_cases e:aF s=aD s
 ·rw[aA e] at k;refine bZ (λ q=>?_) (λ _=>?_)
  ·exfalso;have:(!decide (V.str (st (aF s))=V.str (st (aD s))))=true:=q;rw[e] at this;simp at this
  ·refine⟨_,_,z,T.yI,_,z,b,s,z,a8,.inl (ag s:Int),z,?_⟩;have mN:((b4 [((Sum.inl 2:Key),V.int 3),(.inl 11,.int 10)] (.inl (ag s:Int))).getD (.int 1))=.int (M.h6 s:Nat):=by cases s<;>rfl
   rw[mN];exact k H (aH.refl _)
 ·rw[ay e] at k;refine bZ (λ _=>k H (aH.refl _)) (λ q=>?_);exfalso;refine q ?_;rw[eA (λ B=>e (jr (by injection B)))];rfl
def agH (s):∃b,b4 [((Sum.inl 1:Key),V.ref T.Kz),(.inl 2,.ref T.KC),(.inl 3,.ref T.KE),(.inl 4,.ref T.KH),(.inl 5,.ref T.KJ),(.inl 6,.ref T.KN),(.inl 7,.ref T.KP),(.inl 8,.ref T.KR),(.inl 9,.ref T.KU),(.inl 10,.ref T.KW),(.inl 11,.ref T.KY)] (.inl (ag s:Int))=some (.ref b)/\
  dD K b [.str (gB (M.gx (ag s))),.str (gB (M.dR (ag s)))]:=by
 cases s;·exact⟨_,z,T.KA⟩
 ·exact⟨_,z,T.KD⟩
 ·exact⟨_,z,T.KG⟩
 ·exact⟨_,z,T.KI⟩
 ·exact⟨_,z,T.KL⟩
 ·exact⟨_,z,T.KO⟩
 ·exact⟨_,z,T.KQ⟩
 ·exact⟨_,z,T.KS⟩
 ·exact⟨_,z,T.KV⟩
 ·exact⟨_,z,T.KX⟩
 ·exact⟨_,z,T.KZ⟩
def Uv:⇑7 1 T.sK (agw T):=by
 refine bX T.sK.F S9 λ H _ _ _ h=>?_;obtain⟨b,s,rfl,a8,k⟩:=h;refine⟨z,λ _ _ _ _ _ _ _=>?_⟩;intro X;refine⟨_,(aJ (bQ 1 S9.nd (uK (li T.Cw) (hL T.bB T.gN (O 0)) (λ _ _=>rfl))) (aN (a6 (b_ (U (gT (U (js T.bB T.ia (O 0)) (U (hy Am (O 1) bc (λ _ _=>rfl)) ai))) (U (gT (U (hM T.bB T.gO (O 0)) (U (hy Am (O 1) bc (λ _ _=>rfl)) ai))) ai)))))),?_⟩;obtain⟨c,ba,a_⟩:=agH T s;have two:2<=sizeLine:=by decide
 refine⟨_,z,b,s,z,a8,_,_,.inl (ag s:Int),_,z,T.kC,z,ba,?_⟩;refine⟨_,z,b,s,z,a8,_,z,c,_,_,_,z,z,a_.i1,at_of (j:=0) z z,two,λ fR D=>?_⟩;have al:aH H (upd H fR (.tup [.str (st (aF s)),.str (gB (M.gx (ag s)))])):=bp D;refine⟨_,z,b,s,z,a8.same al,_,z,c,_,_,_,z,z,a_.i1,at_of (j:=1) z z,two,λ cG G=>⟨two,λ l ah=>?_⟩⟩;have aq:=al.trans (bp (o:=.tup [.str (st (aD s)),.str (gB (M.dR (ag s)))]) G);refine k l fR cG _ (aq.trans (bp ah)) (aq.free ah) aI (bw (bw aI (cy aI G)) ?_) (bw aI (cy aI ah));exact cy (bw aI (cy aI G)) ah
theorem L0:M.h_ ls n p=match M.pl ls n with
  |some e=>if e.1=p then none else some e.2
  |none=>none:=rfl
def nr (ls:Lines)(s:Sen):Nat->List Nat
 |0=>[]
 |1=>(M.h_ ls (aF s) (M.gx (ag s))).toList
 |_=>(M.h_ ls (aF s) (M.gx (ag s))).toList++(M.h_ ls (aD s) (M.dR (ag s))).toList
def agI (ls)(s)(i):(nr ls s i).length<=2:=by
 unfold nr;split;·simp
 ·cases M.h_ ls (aF s) (M.gx (ag s))<;>simp
 ·cases M.h_ ls (aF s) (M.gx (ag s))<;>cases M.h_ ls (aD s) (M.dR (ag s))<;>simp
def agJ (h:((nr ls s 2).map λ(n:Nat)=>(n:Int))=[]/\m=0\/(m∈(nr ls s 2).map λ(n:Nat)=>(n:Int))/\∀y∈(nr ls s 2).map λ(n:Nat)=>(n:Int),m<=y):m=((M.pp ls s).getD 0:Nat):=by
 unfold nr at h;unfold M.pp M.Bl;cases a:M.h_ ls (aF s) (M.gx (ag s)) with
 |none=>
  cases b:M.h_ ls (aD s) (M.dR (ag s)) with
  |none=>rw[a,b] at h;simpa using h
  |some y=>rw[a,b] at h;simp at h;simp[h]
 |some x=>
  cases b:M.h_ ls (aD s) (M.dR (ag s)) with
  |none=>rw[a,b] at h;simp at h;simp[h]
  |some y=>rw[a,b] at h;simp at h;simp;omega
def agK:⇑7 2 T.vd (agx T):=by
 refine bX T.vd.F BW λ H _ _ _ h=>?_;obtain⟨_,d,b,ls,s,rfl,dH,a8,k⟩:=h;refine⟨z,λ _ _ _ _ ab a1 _=>?_⟩;intro X;refine⟨_,(aJ (bQ 2 BW.nd (b_ ai)) (aJ (gs f1 z (eN (bf T.sK T.B' (Uv T) ab (U (O 1) ai))) (v6 (K:=K) (i:=3) (j:=4) z z BW.nd z z (Or.inl z) (Or.inl z) (Or.inl z) (Or.inl z)) (aJ (bQ 5 BW.nd (qo a1 (O 0) (O 3) (gT (U (O 4) (U bc ai))) ⟨z,z,z,z⟩)) (aN (cb (b9 Af (hy Am (O 5) bc (λ _ _=>rfl)) (O 4) (b7 _)) (aN (eY (fX hK (O 2) (U (hy Am (O 5) bc (λ _ _=>rfl)) ai)))) cj)))) (aN (a6 (acU z T.La (U (O 2) ai)))))),?_⟩;refine⟨cQ _,λ bk fZ=>?_⟩;have al:aH H (upd H bk (.lst [])):=bp fZ;refine⟨_,z,b,s,z,a8.same al,λ l fR cG _ aq _ ah D G=>?_⟩;have ed:=al.trans aq;have agL:=aq _ _ aI;refine⟨l,z,⟨_,aG.of ah⟩,ha (K:=K) (a:=l) (xs:=[.ref fR,.ref cG]) (λ i L J=>∃hP dE,SZ (λ e5=>L=[some (.ref d),some (.ref b),some (.ref bk),hP,dE,e5]) (aH H J) (J bk=some (.lst (br (nr ls s i)))) (J l=some (.lst [.ref fR,.ref cG])/\J fR=some (.tup [.str (st (aF s)),.str (gB (M.gx (ag s)))])/\J cG=some (.tup [.str (st (aD s)),.str (gB (M.dR (ag s)))])))
  ⟨none,none,none,z,ed,agL,ah,D,G⟩ (λ i L J _ ⟨_,_,_,_,_,_,q,_⟩=>aG.of q) ?_ ?_⟩
 ·rintro i y L J aj ⟨hP,dE,e5,rfl,aO,q',ie,iT,gz⟩;intro A;obtain⟨fc,n,p,rfl,s7,ar,eP⟩:∃fc n p,y=V.ref fc/\J fc=some (.tup [.str (st n),.str (gB p)])/\p<=4/\nr ls s (i+1)=nr ls s i++(M.h_ ls n p).toList:=by
   match i,aj with
   |0,aj=>cases aj;exact⟨fR,aF s,_,z,iT,Us _,z⟩
   |1,aj=>cases aj;exact⟨cG,aD s,_,z,gz,Ut _,z⟩
   |i+2,aj=>simp at aj
  obtain⟨⟨aw,hd,_,pG⟩,_⟩:=dH.same aO;refine⟨fc,_,z,dh.of s7,z,_,_,z,_,_,z,z,?_⟩;refine⟨_,z,d,z,.inl ⟨aw,.inl hd⟩,_,z,_,z,hv,λ q aK=>⟨_,dV.k (k:=Sum.inr (st n)) (bp aK _ _ hd),?_⟩⟩;have bh:aH J (upd J q (.tup [.str (gB p),.int 0])):=bp aK;obtain⟨cc,fN,j,ap,ao,za,bz⟩:∃cc fN j,((b4 aw (Sum.inr (st n))).getD (.ref q))=V.ref cc/\upd J q (.tup [.str (gB p),.int 0]) cc=some (.tup [.str (gB fN),.int ((j:Nat):Int)])/\fN<=4/\M.h_ ls n p=if fN=p then none else some j:=by
   rcases pG n with⟨a',a5⟩|⟨fN,j,tp,a',a5,bn,cx⟩;·exact⟨q,p,0,by rw[a5];rfl,aI,ar,by rw[L0,a',aA z]⟩
   ·exact⟨tp,fN,j,by rw[bn];rfl,bh _ _ cx,a5,by rw[L0,a']⟩
  rw[ap];have keep:∀c o,J c=some o->c≠bk->∀x,upd (upd J q (.tup [.str (gB p),.int 0])) bk x c=some o:=λ c o e ak x=>bw (bh _ _ e) ak;refine⟨_,z,cc,_,_,_,z,z,dh.of ao,at_of (j:=0) z z,_,z,z,_,z,bZ (λ c=>?_) (λ c=>?_)⟩
  ·have ne:¬fN=p:=λ B=>by have c:=c;rw[B] at c;simp at c
   rw[ay ne] at bz;have Uw:=bh _ _ q';refine⟨_,z,.inl ⟨z,_,aG.of Uw⟩,_,z,cc,_,_,_,z,z,dh.of ao,at_of (j:=1) z z,bk,_,_,z,z,Uw,(by rw[du];exact em (by have:=agI ls s i;omega)),?_⟩;refine⟨_,_,_,z,ev (aO.trans bh) fZ,?_,keep _ _ ie (λ B=>by rw[B,q'] at ie;have:=gn.lst.inj (eV ie);cases e:nr ls s i with
    |nil=>rw[e] at this;cases this
    |cons x r=>rw[e] at this;cases this) _,keep _ _ iT (cw iT q' ⇑3) _,keep _ _ gz (cw gz q' ⇑3) _⟩
   rw[aI,eP,bz,iH];rfl
  ·have Ux:fN=p:=by refine DB λ B=>c ?_;rw[eA (λ y=>B (agu za ar (by injection y)))];rfl
   rw[aA Ux] at bz;exact⟨_,_,_,z,aO.trans bh,by rw[eP,bz,bh _ _ q'];simp,bh _ _ ie,bh _ _ iT,bh _ _ gz⟩
 ·rintro L J ⟨hP,dE,e5,rfl,aO,q',ie,iT,gz⟩;refine⟨_,z,bk,(nr ls s 2).map λ(n:Nat)=>(n:Int),z,aG.of (by rw[q',CZ];rfl),λ _ hm=>?_⟩;rw[agJ hm];exact k J aO
def agM:⇑7 2 T.ve (agy T):=by
 refine bX T.ve.F yg λ H _ _ _ h=>?_;obtain⟨a,b,ss,s,rfl,aM,a8,k⟩:=h;refine⟨z,λ _ _ _ _ ab _ _=>?_⟩;intro X;refine⟨_,(aJ (cb (b9 mP (hL T.bB T.gN (O 1)) (gT (U (b5 T.ot) (U (b5 T.mb) (U (b5 T.sV) ai)))) z) (aJ (bQ 2 yg.nd (e4 T.bB T.c4 T.jo T.lh (λ _ _ _=>rfl) (nk T) ab (O 0) (U (hL T.bB T.gN (O 1)) (U (js T.bB T.ia (O 1)) ai)))) (aN (bQ 3 yg.nd (Et (hX eG (O 2) bc (b7 _)) (nN (hX eG (hM T.bB T.gO (e4 T.bB T.c4 T.hI T.iZ (λ _ _ _=>rfl) (j9 T) ab (O 0) (U (O 2) ai))) (hM T.bB T.gO (O 1)) (b7 _))))))) (aJ (bQ 2 yg.nd (e4 T.bB T.c4 T.qJ T.yA (λ _ _ _=>rfl) (Lo T) ab (O 0) (U (hL T.bB T.gN (O 1)) (U (js T.bB T.ia (O 1)) (U (hM T.bB T.gO (O 1)) ai))))) (aN (bQ 3 yg.nd (Et (hX eG (O 2) bc (b7 _)) (nN (hX eG (s2 T.bB T.oo (e4 T.bB T.c4 T.hI T.iZ (λ _ _ _=>rfl) (j9 T) ab (O 0) (U (O 2) ai))) (s2 T.bB T.oo (O 1)) (b7 _)))))))) (aN (a6 (mE (gE (O 3)) bc (O 2))))),?_⟩;refine⟨_,z,b,s,z,a8,i8,λ p ar=>⟨p,_,z,.inr (dh.of aI),z,z,_,z,?_⟩⟩;have al:aH H (upd H p (.tup [.int 2,.int 5,.int 11])):=bp ar;unfold M.k9 M.pq M.n7 at k;refine bZ (λ q=>?_) (λ q=>?_)
 ·have e:ag s=2\/ag s=5\/ag s=11:=by have:=CY.mp q;omega
  simp only[aA e] at k;refine⟨_,z,a,z,⟨ss,aM.same al⟩,_,z,b,s,z,a8.same al,_,z,b,s,z,a8.same al,a,ss,ag s,aF s,z,aM.same al,λ aE aq=>?_⟩;have ed:=al.trans aq;have el:=yT ss (ag s) (aF s);cases gZ:bm (cg (ag s) (aF s)) (nb ss) with
  |none=>rw[gZ] at k el;have el:=el;rw[el];refine⟨_,z,z,_,z,df ⟨_,z,_,z,df (k aE ed)⟩⟩
  |some x=>
   rw[gZ] at k el;have el:eT ss (ag s) (aF s)=x.1:=el;have aa:=(M.gM gZ).1;have LK:=pD aa;rw[el];refine⟨_,z,z,_,z,?_⟩;rw[eA (λ B=>by injection B with B;omega)];refine c7 ⟨_,z,a,z,⟨ss,aM.same ed⟩,_,z,a,ss,x.1,x.2,z,aM.same ed,aa,λ c ak=>⟨c,x.2,z,ak,_,z,b,s,z,a8.same ed,z,?_⟩⟩;refine⟨_,z,_,z,?_⟩;dsimp only at k;by_cases ao:aD x.2=aD s
   ·rw[aA ↥ao] at k;show if decide (V.str (st (aD x.2))=V.str (st (aD s)))=true then _ else _
    rw[ao,dO z];exact df (k aE ed)
   ·rw[ay ↥ao] at k;rw[eA (λ B=>ao (jr (by injection B)))];exact c7 ⟨_,z,k aE ed⟩
 ·have e:¬(ag s=2\/ag s=5\/ag s=11):=λ B=>q (CY.mpr ⇑1);simp only[ay e] at k;refine⟨_,z,a,z,⟨ss,aM.same al⟩,_,z,b,s,z,a8.same al,_,z,b,s,z,a8.same al,_,z,b,s,z,a8.same al,a,ss,ag s,aF s,aD s,z,aM.same al,λ aE aq=>?_⟩;have ed:=al.trans aq;have el:lj ss (ag s) (aF s) (aD s)=((bm (cH (ag s) (aF s) (aD s)) (nb ss)).map (·.1)).getD 0:=rfl;cases gZ:bm (cH (ag s) (aF s) (aD s)) (nb ss) with
  |none=>rw[gZ] at k el;have el:=el;rw[el];refine⟨_,z,z,_,z,df ⟨_,z,_,z,df (k aE ed)⟩⟩
  |some x=>
   rw[gZ] at k el;have el:lj ss (ag s) (aF s) (aD s)=x.1:=el;have aa:=(M.gM gZ).1;have LK:=pD aa;rw[el];refine⟨_,z,z,_,z,?_⟩;rw[eA (λ B=>by injection B with B;omega)];refine c7 ⟨_,z,a,z,⟨ss,aM.same ed⟩,_,z,a,ss,x.1,x.2,z,aM.same ed,aa,λ c ak=>⟨c,x.2,z,ak,_,z,b,s,z,a8.same ed,z,?_⟩⟩;refine⟨_,z,_,z,?_⟩;dsimp only at k;by_cases ao:bv x.2=bv s
   ·rw[aA ↥ao] at k;show if decide (V.int (bv x.2)=V.int (bv s))=true then _ else _
    rw[ao,dO z];exact df (k aE ed)
   ·rw[ay ↥ao] at k;rw[eA (λ B=>ao (by injection B))];exact c7 ⟨_,z,k aE ed⟩
def agN (s):(!(b4 [((Sum.inl 2:Key),V.int 3),(.inl 11,.int 10)] (.inl (ag s:Int))).isSome)= !decide (ag s=2\/ag s=11):=by cases s<;>rfl
def agO:⇑7 4 T.vf (agz T):=by
 refine bX T.vf.F ael λ _ _ _ _ h=>?_;obtain⟨a,b,ss,s,rfl,aM,a8,ek,k⟩:=h;refine⟨z,λ _ _ _ _ ab _ _=>?_⟩;intro X;refine⟨_,(aJ (cb (w_ (acq (hL T.bB T.gN (O 1)) (li T.vS))) (aN (a6 (b_ ai))) cj) (aN (a6 (bf T.sB T.B3 (TK T) ab (U (O 0) (U (hL T.bB T.gN (O 1)) (U (hM T.bB T.gO (O 1)) (U (js T.bB T.ia (O 1)) ai)))))))),?_⟩;refine⟨_,z,b,s,z,a8,_,_,.inl (ag s:Int),z,T.yI,z,_,z,?_⟩;rw[agN];unfold M.ff at k;by_cases e:ag s=2\/ag s=11
 ·rw[aA e] at k;rw[dO e];refine c7 ⟨_,z,_,z,b,s,z,a8,_,z,b,s,z,a8,_,z,b,s,z,a8,a,ss,ag s,aD s,aF s,z,aM,λ l J al aX D=>k l J al aX ?_⟩;rw[D];unfold ig;rw[ay (λ B=>ek B.symm)]
 ·rw[ay e] at k;rw[eA e];exact df ⟨cQ _,λ l ah=>k l _ (bp ah) ah aI⟩
def agP (h:M.pl (nb ss) n=some e):1<=e.2:=by unfold M.pl at h;obtain⟨_,aa,h⟩:=mq h;obtain⟨_,_,rfl⟩:=lv.mp h;exact pD aa
def C8 (h:M.h_ (nb ss) n p=some i):1<=i:=by
 rw[L0] at h;cases e:M.pl (nb ss) n with
 |none=>rw[e] at h;cases h
 |some q=>
  rw[e] at h;dsimp only at h;split at h;·cases h
  ·cases h;exact agP e
def agQ (h:M.pp (nb ss) s=some i):1<=i:=by
 unfold M.pp M.Bl at h;cases a:M.h_ (nb ss) (aF s) (M.gx (ag s)) with
 |none=>rw[a] at h;exact C8 h
 |some x=>
  cases b:M.h_ (nb ss) (aD s) (M.dR (ag s)) with
  |none=>rw[a,b] at h;cases h;exact C8 a
  |some y=>rw[a,b] at h;cases h;have:=C8 a;have:=C8 b;omega
def agR (h:M.k9 (nb ss) s=some x):x∈nb ss:=by
 unfold M.k9 M.pq at h;by_cases q:ag s=2\/ag s=5\/ag s=11
 ·rw[aA q] at h;cases e:bm (cg (ag s) (aF s)) (nb ss) with
  |none=>rw[e] at h;cases h
  |some y=>rw[e] at h;dsimp only at h;split at h;cases h;cases h;exact(M.gM e).1
 ·rw[ay q] at h;cases e:bm (cH (ag s) (aF s) (aD s)) (nb ss) with
  |none=>rw[e] at h;cases h
  |some y=>rw[e] at h;dsimp only at h;split at h;cases h;cases h;exact(M.gM e).1
def Uy (h:ag s=1\/ag s=3\/ag s=4):bv s=1:=by cases s<;>simp[ag] at h<;>rfl
def agS (h:M.k9 (nb ss) s=some x):¬(ag s=1\/ag s=3\/ag s=4):=by
 intro q;unfold M.k9 M.pq M.n7 at h;have agT:¬(ag s=2\/ag s=5\/ag s=11):=by omega
 simp only[ay agT] at h;cases e:bm (cH (ag s) (aF s) (aD s)) (nb ss) with
 |none=>rw[e] at h;cases h
 |some y=>rw[e] at h;dsimp only at h;have gZ:=(M.h4.mp (M.gM e).2).1;rw[Uy q,Uy (by rw[gZ];exact q)] at h;simp at h
def agU (h:¬(ag s=1\/ag s=3\/ag s=4)):b4 [((Sum.inl 2:Key),V.int 2),(.inl 5,.int 4),(.inl 6,.int 5),(.inl 7,.int 6),(.inl 8,.int 11),(.inl 9,.int 8),(.inl 10,.int 12),(.inl 11,.int 9)] (.inl (ag s:Int))=some (.int (M.FY (ag s):Nat)):=by cases s<;>first|rfl|(simp[ag] at h)
def agV (h:ag s=2\/ag s=11):b4 [((Sum.inl 2:Key),V.int 3),(.inl 11,.int 10)] (.inl (ag s:Int))=some (.int (M.h6 s:Nat)):=by cases s<;>first|rfl|(simp[ag] at h)
def agW (ss)(s):(M.ff (nb ss) s).Nodup/\(M.ff (nb ss) s).length<=ss.length:=by
 unfold M.ff;split
 ·by_cases e:aD s=aF s
  ·have D:(M.fq (b' (nb ss) (ag s) (aD s)) (aF s)).Nodup:=M.FW (M.A1 M.n2 _ _ _);refine⟨D,?_⟩;have G:∀n∈M.fq (b' (nb ss) (ag s) (aD s)) (aF s),n∈(nb ss).map (·.1):=λ n aB=>by obtain⟨_,aa,rfl⟩:=cd.mp (M.xT n aB);obtain⟨_,a1,_⟩:=yX aa;exact cd.mpr ⟨_,a1,z⟩
   have:=oL D G;rwa [be,ii] at this
  ·have D:=LR ss (ag s) (aD s) (aF s);have G:=Ub ss (ag s) (aD s) (aF s);unfold ig at D G;rw[ay e] at D G;exact⟨D,G⟩
 ·exact⟨wL,cQ _⟩
def zb (l):(Vbtaae.sortNums l).length<=l.length:=oL ((M.sa l).imp λ h=>er h) λ _ aa=>M.pf.mp aa
def agX (s):0<M.h6 s:=by unfold M.h6;split<;>(try split)<;>decide
def agY:⇑7 5 T.vg (agA T):=by
 refine bX T.vg.F uZ λ _ _ _ _ h=>?_;obtain⟨H0,a,d,b,ss,s,rfl,aM,dH,a8,k⟩:=h;refine⟨z,λ _ _ _ _ ab _ _=>?_⟩;intro X;refine⟨_,(aJ (bQ 3 uZ.nd (e0 rN (dJ fJ z T.eu eK (U (yV T.bB T.c4 T.oi (O 0)) ai)) bc)) (aJ (bQ 4 uZ.nd (bf T.vc T.Jg (agG T) ab (U (O 2) ai))) (aJ (cb (b9 fO (O 4) bc (b7 _)) (aN (a6 (b_ (U (O 4) (U (O 3) ai))))) cj) (aJ (bQ 5 uZ.nd (bf T.vd T.Jh (agK T) ab (U (O 1) (U (O 2) ai)))) (aJ (cb (b9 fO (O 5) bc (b7 _)) (aN (a6 (b_ (U (b5 T.Cu) (U (O 5) (U (O 3) ai)))))) cj) (aJ (bQ 5 uZ.nd (bf T.ve T.Ji (agM T) ab (U (O 0) (U (O 2) ai)))) (aJ (cb (b9 fO (O 5) bc (b7 _)) (aN (a6 (b_ (U (uK (li T.Cv) (hL T.bB T.gN (O 2)) (λ _ _=>rfl)) (U (O 5) (U (O 3) ai)))))) cj) (aJ (bQ 6 uZ.nd (bf T.vf T.Jj (agO T) ab (U (O 0) (U (O 2) ai)))) (aJ (cb (b9 fO (dJ fJ z T.eu eK (U (O 6) ai)) bc (b7 _)) (aN (a6 (e0 jL (e0 jL (b_ (U (uK (li T.vS) (hL T.bB T.gN (O 2)) (λ _ _=>rfl)) ai)) (dJ Sn z T.sX boot_sorted (U (O 6) ai))) (b_ (U (O 3) ai))))) cj) (aN (a6 (b_ ai)))))))))))),?_⟩;obtain⟨as,v9⟩:=id aM;have lN:=(let ⟨_,_,_,_,_,_,R⟩:=v9;R.kE.len:as.length=ss.length);have Lu:=aM.small;unfold M.uE at k;refine⟨_,z,a,as,ss,z,v9,λ av fw=>⟨av,_,z,.inl (aG.of fw),_,_,z,z,?_⟩⟩;dsimp only;rw[be,lN,show((ss.length:Nat):Int)+1=((ss.length+1:Nat):Int) by omega];refine⟨_,z,b,s,z,a8,λ _ al=>?_⟩;by_cases cD:aF s=aD s
 ·rw[aA cD] at k⊢;have ar:=agX s;refine⟨_,z,_,_,z,z,_,z,bZ (λ _=>?_) (λ B=>absurd (by simp;omega) B)⟩;exact⟨_,z,_,z,hv,λ l ah=>k l _ (al.trans (bp ah)) (al.free ah) aI⟩
 rw[ay cD] at k⊢;refine⟨_,z,_,_,z,z,_,z,bZ (λ B=>absurd B ⇑0) (λ _=>?_)⟩;refine⟨_,z,_,z,H0,d,b,nb ss,s,z,dH.same al,a8.same al,λ _ aq=>?_⟩;have ed:=al.trans aq;cases ap:M.pp (nb ss) s with
 |some i=>rw[ap] at k;have ar:=agQ ap;refine⟨_,z,_,_,z,z,_,z,bZ (λ _=>?_) (λ B=>absurd (by show decide ((0:Int)<(i:Nat))=true;simp;omega) B)⟩;exact⟨_,z,_,z,i8,λ l ah=>k l _ (ed.trans (bp ah)) (ed.free ah) aI⟩
 |none=>
  rw[ap] at k;dsimp only at k;unfold M.Gn at k;refine⟨_,z,_,_,z,z,_,z,bZ (λ B=>absurd B ⇑0) (λ _=>?_)⟩;refine⟨_,z,_,z,a,b,ss,s,z,aM.same ed,a8.same ed,λ _ aO=>?_⟩;have i2:=ed.trans aO;cases ao:M.k9 (nb ss) s with
  |some x=>rw[ao] at k;have ar:=pD (agR ao);refine⟨_,z,_,_,z,z,_,z,bZ (λ _=>?_) (λ B=>absurd (by show decide ((0:Int)<(x.1:Nat))=true;simp;omega) B)⟩;exact⟨_,z,b,s,z,a8.same i2,_,_,.inl (ag s:Int),_,z,T.Ky,z,agU (agS ao),_,z,_,z,i8,λ l ah=>k l _ (i2.trans (bp ah)) (i2.free ah) aI⟩
  |none=>
   rw[ao] at k;dsimp only at k;refine⟨_,z,_,_,z,z,_,z,bZ (λ B=>absurd B ⇑0) (λ _=>?_)⟩;refine⟨_,z,_,z,a,b,ss,s,z,aM.same i2,a8.same i2,cD,λ kG _ bh _ kH=>?_⟩;have q_:=i2.trans bh;obtain⟨agZ,_⟩:=agW ss s;refine⟨_,z,kG,_,z,.inl (aG.of kH),_,_,z,z,_,z,?_⟩;rw[du];by_cases bz:M.ff (nb ss) s=[]
   ·rw[aA bz] at k;rw[bz];refine bZ (λ B=>absurd B ⇑0) (λ _=>⟨cQ _,λ l ah=>k l _ (q_.trans (bp ah)) (q_.free ah) aI⟩)
   ·rw[ay bz] at k;have LK:=pY.mpr bz;have aS:=DB λ B=>bz (by unfold M.ff;rw[ay B]);refine bZ (λ _=>?_) (λ B=>absurd (by simp;omega) B);refine⟨_,z,b,s,z,a8.same q_,_,_,.inl (ag s:Int),_,z,T.yI,z,agV aS,dY,λ dR yQ=>?_⟩;have ck:=q_.trans (bp (o:=.lst [.int (M.h6 s:Nat)]) yQ);refine⟨_,z,kG,_,z,aG.of (by rw[bw kH (cy kH yQ),CZ]),λ _ fP ag0 au iv=>?_⟩;rw[T' agZ ag0 au];have cm:=ck.trans (bp (o:=.lst (br (Vbtaae.sortNums (M.ff (nb ss) s)))) iv);have sl:=zb (M.ff (nb ss) s);refine⟨dR,fP,_,_,z,z,bw aI (cy aI iv),aI,(by rw[du];exact gP (by simp;omega)),λ m' oz=>?_⟩;have ei:=cm.trans (bp (o:=.lst ([.int (M.h6 s:Nat)]++br (Vbtaae.sortNums (M.ff (nb ss) s)))) oz);refine⟨_,z,dY,λ x9 y'=>?_⟩;have fp:=ei.trans (bp (o:=.lst [.int ((ss.length+1:Nat):Int)]) y');refine⟨m',x9,_,_,z,z,bw aI (cy aI y'),aI,(by rw[cX,du];exact gP (by simp;omega)),λ ag1 v'=>?_⟩;refine k ag1 _ (fp.trans (bp v')) (fp.free v') ?_;rw[aI];unfold j_;dsimp only;have fe:M.h6 s::(Vbtaae.sortNums (M.ff (nb ss) s)++[ss.length+1])=[M.h6 s]++Vbtaae.sortNums (M.ff (nb ss) s)++[ss.length+1]:=rfl;rw[fe,iH,iH];rfl
def Uz (aZ ci:Addr):bA:=λ vs H Q _=>∃p dx l ss,vs=[.ref p,.ref l]/\H p=some (.ins ci dx [])/\CW aZ H l ss/\ss.length<=4096/\∀J,hl (λ b=>if b=p then none else H b) aZ ci J p ss->Q .b6 J
inductive ag2j(aZ:Addr)(ci:Addr)(Q:d7)(vs:List V)(H1:aP):Prop|mk l ss:vs=[.ref l]->CW aZ H1 l ss->ss.length<=4096->(∀p J,H1 p=none->hl H1 aZ ci J p ss->Q (.ref p) J)->ag2j aZ ci Q vs H1
def ag2 (aZ ci:Addr)(t:eX):TE:=λ L H Q=>t L H (ag2j aZ ci Q)
def ag3 (af:dt X.K x cL it ps)(hm:X.am "Told"=some (.ref ci))(dU:jI X.K ci af.f)(a2:fB X.prog X.w X.K X.am X.base h2 k af.f af.fd ps (Uz aZ ci))(ab:ea g1 X.A)(az:gf X (e::ae) t)(ax:k+1<=g1:=by decide)(bL:gr X "Told":=by rfl)
  (a3:starEach (e::ae) X.env=(false,eval e X.env)::starEach ae X.env:=by rfl) (d2:(backTo pos (starEach ae X.env)).any (·.1)=false:=by rfl):a9 X (.Call (.Name "Told" p) (e::ae) [] pos) (ag2 aZ ci t):=
 λ ac s L H Q I aK=>xj dU a2 (ab.mono ax) bL hm af.b .nil mY (CO az) ⇑0 a3 d2 s L H Q I ⟨_,aK,λ _ H1 ⟨l,ss,e,⟨as,D,G⟩,ah,q⟩ x dx ca cp _=>by subst e;have pI:aH H1 (upd (upd H1 dx (.own x)) x (.ins ci dx [])):=λ b u e=>bw (bw e (cy e cp)) (cy e ca);exact⟨x,dx,l,ss,z,aI,⟨as,pI _ _ D,G.same pI⟩,ah,λ J aM=>⟨z,q x J ca (aM.less λ b u e=>(ay (cy e ca)).trans (pI b u e))⟩⟩⟩
def hl.frame (h:hl H0 aZ ci H a ss):∃oE,hl oE aZ ci H a ss/\aH H0 oE/\∀b o,H b=some o->(∀xs,o≠.lst xs)->(∀ct,o≠.e7 ct)->oE b=some o:=by
 classical
 obtain⟨dx,av,nd,fd,kvN,kvF,as,W⟩:=h;refine⟨λ b=>if b=av\/b=nd\/b=fd\/∃f n,b4 kvN (ic f n)=some (.ref b) then none else H b,⟨dx,av,nd,fd,kvN,kvF,as,W.r,?_,aA (.inl z),aA (.inr (.inl z)),aA (.inr (.inr (.inl z))),λ f n l q=>aA (.inr (.inr (.inr ⟨f,n,q⟩)))⟩,?_,?_⟩
 ·intro b o e;dsimp only at e;split at e
  ·cases e
  ·exact e
 ·intro b o e;dsimp only;rw[ay]
  ·exact W.base b o e
  ·rintro(B|B|B|⟨f,n,B⟩)
   ·rw[B,W.ol] at e;cases e
   ·rw[B,W.on] at e;cases e
   ·rw[B,W.of] at e;cases e
   ·rw[W.q3 f n b B] at e;cases e
 ·intro b o e D G;dsimp only;rw[ay]
  ·exact e
  ·rintro(B|B|B|⟨f,n,B⟩)
   ·subst B;rw[W.r.lst] at e;cases e;exact D _ z
   ·subst B;rw[W.r.num] at e;cases e;exact G _ z
   ·subst B;rw[W.r.fst] at e;cases e;exact G _ z
   ·rcases W.r.q0 f n with⟨_,g⟩|⟨_,l,g,a5⟩
    ·rw[g] at B;cases B
    ·rw[g] at B;cases B;rw[a5] at e;cases e;exact D _ z
structure lp (H0 H:aP)(d:Addr)(g:Bytes->Option (Nat×Nat))(m:Nat):Prop where
 ex:∃aw,H d=some (.cT aw)/\aw.length<=m/\∀n:Bytes,(g n=none/\b4 aw (Sum.inr (st n))=none)\/∃p j tp,g n=some (p,j)/\p<=4/\b4 aw (Sum.inr (st n))=some (.ref tp)/\H tp=some (.tup [.str (gB p),.int (j:Int)])
 own:H0 d=none
def oD.f (h:oD H0 H d ls):lp H0 H d (M.pl ls) (2 * ls.length):=⟨h.ex,h.own⟩
def lp.at_ (h:lp H0 H d (M.pl ls) (2 * ls.length)):oD H0 H d ls:=⟨h.ex,h.own⟩
def lp.same (h:lp H0 H d g m)(k:aH H J):lp H0 J d g m:=by obtain⟨⟨aw,D,G,an⟩,aU⟩:=h;exact⟨⟨aw,k _ _ D,G,λ n=>(an n).imp_right λ⟨p,j,tp,a',a5,bn,cx⟩=>⟨p,j,tp,a',a5,bn,k _ _ cx⟩⟩,aU⟩
def lp.put {m p j:Nat}(h:lp H0 H d g m)(hm:m<100000)(a_:H tp=some (.tup [.str (gB p),.int (j:Int)]))(ar:p<=4):
  ∃r J,CK H d (.str (st n)) (.ref tp) r J/\(∀c o,H c=some o->c≠d->J c=some o)/\lp H0 J d (λ f9=>(g f9).or (if f9=n then some (p,j) else none)) (m+1):=by
 obtain⟨⟨aw,D,G,an⟩,aU⟩:=h;rcases an n with⟨a',a5⟩|⟨fN,ag4,UA,a',a5,bn,cx⟩
 ·refine⟨.ref tp,upd H d (.cT (putK aw (Sum.inr (st n)) (.ref tp))),λ Q gD=>jZ.new (by have:=dV.k (k:=Sum.inr (st n)) D;rw[a5] at this;exact this) (jP.k (k:=Sum.inr (st n)) D (kR G (oU hm ⇑0))) gD,λ c o e ak=>bw e ak,⟨⟨_,aI,by rw[yO a5];omega,λ f9=>?_⟩,aU⟩⟩;rw[sY a5];by_cases e:f9=n
  ·subst e;rw[a',aA z,aA z];exact .inr ⟨p,j,tp,z,ar,z,bw a_ (cw a_ D ⇑3)⟩
  ·rw[ay e,ay (λ B=>e (jr (by injection B))),tC];exact(an f9).imp_right λ⟨p,j,tp,kp,mZ,l6,n_⟩=>⟨p,j,tp,kp,mZ,l6,bw n_ (cw n_ D ⇑3)⟩
 ·refine⟨.ref UA,H,λ Q gD=>jZ.old (by have:=dV.k (k:=Sum.inr (st n)) D;rw[bn] at this;exact this) gD,λ c o e _=>e,⟨⟨aw,D,⇑1,λ f9=>?_⟩,aU⟩⟩;by_cases e:f9=n
  ·subst e;rw[a'];exact .inr ⟨fN,ag4,UA,z,a5,bn,cx⟩
  ·rw[ay e,tC];exact an f9
def L1 (ls:Lines)(s:Sen)(j:Nat):Nat->Bytes->Option (Nat×Nat)
 |0=>M.pl ls
 |1=>λ n=>(M.pl ls n).or (if n=aF s then some (M.gx (ag s),j) else none)
 |_=>λ n=>((M.pl ls n).or (if n=aF s then some (M.gx (ag s),j) else none)).or (if n=aD s then some (M.dR (ag s),j) else none)
def ag5 (ls)(j)(s):(λ n=>((M.pl ls n).or (if n=aF s then some (M.gx (ag s),j) else none)).or (if n=aD s then some (M.dR (ag s),j) else none))=M.pl (ls++[(j,s)]):=by
 funext n;rw[M.abK,Option.or_assoc];congr 1;unfold M.k8;by_cases e:aF s=n;·rw[aA e,aA e.symm];rfl
 ·rw[ay e,ay (λ B=>e B.symm)];by_cases ao:aD s=n
  ·rw[aA ao,aA ao.symm];rfl
  ·rw[ay ao,ay (λ B=>ao B.symm)];rfl
def ag6 (h:ss[i]?=some s):(nb ss).drop i=(i+1,s)::(nb ss).drop (i+1):=by have h':=C0 h;have aj:=(c_.mp h').1;rw[ny aj,(c_.mp h').2]
def C9 {ss:List Sen}(h:ss[i]?=some s):nb (ss.take (i+1))=nb (ss.take i)++[(i+1,s)]:=by have aj:=(c_.mp h).1;rw[eH h,Lg,c5,rp ⇑1]
inductive ag7:mD->Prop|mk{E}l ss:ν=[.ref l]->gA T η l ss->ss.length<=4000->(∀r J,aH η J->η r=none->J r=some (.lst (br (j_ (M.iD [] (nb ss)))))->θ (.ref r) J)->ag7 E
inductive ag8:mD->Prop|mk{E}l ss:ν=[.ref l]->gA T η l ss->ss.length<=1000->(∀s∈ss,M.cE s)->(∀r J,aH η J->η r=none->J r=some (.lst (br (j_ (Vbtaae.clash ss))))->θ (.ref r) J)->ag8 E
inductive ag9:mD->Prop|mk{E}l ss:ν=[.ref l]->gA T η l ss->ss.length<=1000->(∀s∈ss,M.cE s)->(∀J,aH η J->θ (.bg (Vbtaae.makes ss)) J)->ag9 E
theorem aha (b)(x)(r):M.iD b (x::r)=match M.jX b x.1 x.2 with
  |some c=>some c
  |none=>M.iD (b++[x]) r:=by rw[M.iD]<;>rfl
def L2:j_ (some c)≠[]:=oS _ _
def UB:M.n6 []/\M.pn []:=⟨λ x aa=>by simp at aa,λ x aa=>by simp at aa⟩
def ahb:⇑7 2 T.hk (Uz T.da T.fi):=TC T
def ahc:⇑7 6 T.vh (ag7 T):=by
 refine bX T.vh.F u0 λ H _ _ _ h=>?_;obtain⟨l,ss,rfl,⟨as,ah,a8⟩,_,k⟩:=h;refine⟨z,λ _ _ _ _ ab a1 _=>?_⟩;intro X;refine⟨_,(aJ (bQ 1 u0.nd (ag3 T.hk T.j5 T.j6 (ahb T) ab (U (b_ ai) ai))) (aJ (bQ 2 u0.nd xB) (aJ (gs f1 z (eN (O 0)) (ib 3 u0.nd) (aJ (bQ 4 u0.nd (bf T.vg T.Jk (agY T) ab (U (O 1) (U (O 2) (U (O 3) ai))))) (aJ (cb (b9 fO (dJ fJ z T.eu eK (U (O 4) ai)) bc (b7 _)) (aN (a6 (O 4))) cj) (aJ (eY (e4 T.bB T.c4 T.sA T.Cf (λ _ _ _=>rfl) (TA T) ab (O 1) (U (O 3) ai))) (aN (gs f1 z (eN (bf T.sK T.B' (Uv T) ab (U (O 3) ai))) (v6 (K:=K) (i:=5) (j:=6) z z u0.nd z z (Or.inl z) (Or.inl z) (Or.inl z) (Or.inl z)) (aN (eY (Bo a1 (O 2) (O 5) (gT (U (O 6) (U (dJ fJ z T.eu eK (U (yV T.bB T.c4 T.oi (O 1)) ai)) ai))) ⟨z,z,z,z⟩))))))))) (aN (a6 (b_ ai)))))),?_⟩;refine⟨cQ _,λ cD ahd=>⟨cD,[],z,⟨[],aI,dg.nil⟩,cQ _,λ gv H1 _ pM=>?_⟩⟩;have bD:aH H (upd H cD (.lst [])):=bp ahd;have pM:=pM.less bD;intro d hd;have nl:=pM.base.free hd;have v2:aH H1 (upd H1 d (.cT [])):=bp hd;refine⟨_,z,l,z,⟨_,aG.of (v2 _ _ (pM.base _ _ ah))⟩,ha (K:=K) (a:=l) (xs:=as.map V.ref) (λ i L J=>BT λ hP dE e5=>SZ (λ hn=>L=[some (.ref l),some (.ref gv),some (.ref d),hP,dE,e5,hn]) (hl H T.da T.fi J gv (ss.take i)) (oD H J d (nb (ss.take i))) (M.n6 (nb (ss.take i))/\M.pn (nb (ss.take i))/\M.iD [] (nb ss)=M.iD (nb (ss.take i)) ((nb ss).drop i)))
  ⟨none,none,none,none,z,pM.same v2,⟨⟨[],aI,cQ _,λ n=>.inl ⟨z,z⟩⟩,nl⟩,UB.1,UB.2,z⟩ (λ i L J _ ⟨_,_,_,_,_,q,_,_⟩=>aG.of (q.base _ _ ah)) ?_ ?_⟩
 ·rintro i _ L J aj ⟨hP,dE,e5,hn,rfl,aM,dH,v5,lN,ak⟩;intro A;rw[d5] at aj;cases ej:as[i]? with
  |none=>rw[ej] at aj;cases aj
  |some b=>
   rw[ej] at aj;cases aj;obtain⟨bD,ae,oB⟩:=a8.get ej;have l7:i<ss.length:=(c_.mp ae).1;have nm:=oB.same aM.base;have lt:(ss.take i).length=i:=by rw[c5];omega
   rw[ag6 ae] at ak;rw[aha] at ak;dsimp only at ak;have UC:M.jX (nb (ss.take i)) (i+1) bD=M.uE (nb (ss.take i)) ((ss.take i).length+1) bD:=by rw[lt];exact M.abR v5 lN (M.A9 1 _).1
   refine⟨_,z,_,z,_,z,H,gv,d,b,ss.take i,bD,z,aM.CQ,dH,nm,λ cl aE aq L3 fC=>?_⟩;refine⟨_,z,cl,_,z,.inl (aG.of fC),_,_,z,z,_,z,?_⟩;rw[du];rw[UC] at ak;cases ap:M.uE (nb (ss.take i)) ((ss.take i).length+1) bD with
   |some c=>rw[ap] at ak fC;refine bZ (λ _=>⟨_,z,k cl aE (aM.base.trans aq) (aM.base.free L3) (by rw[ak];exact fC)⟩) (λ B=>absurd ?_ B);have:=pY.mpr (L2 (c:=c));simp;omega
   |none=>
    rw[ap] at ak;dsimp only at ak;refine bZ (λ B=>absurd B ⇑0) (λ _=>?_);obtain⟨oE,UD,ahe,UE⟩:=(aM.same aq).frame;obtain⟨dx,av,nd,fd,kvN,kvF,L4,W⟩:=id UD;refine⟨_,z,gv,z,⟨_,UD.CQ⟩,_,z,oE,gv,b,dx,av,nd,fd,kvN,kvF,L4,_,bD,z,W,nm.same aq,(by rw[lt];omega),λ bj mc nj Lr=>?_⟩;have L5:hl oE T.da T.fi bj gv (ss.take i++[bD]):=⟨dx,av,nd,fd,mc,nj,_,Lr⟩;have UF:hl H T.da T.fi bj gv (ss.take (i+1)):=by rw[eH ae];exact L5.less ahe
    have ahf:oD H bj d (nb (ss.take i)):=by obtain⟨⟨aw,a',a5,bn⟩,cx⟩:=dH.same aq;refine⟨⟨aw,L5.base _ _ (UE _ _ a' (λ xs B=>by cases B) (λ ct B=>by cases B)),a5,λ n=>(bn n).imp_right λ⟨p,j,tp,kp,mZ,l6,n_⟩=>⟨p,j,tp,kp,mZ,l6,L5.base _ _ (UE _ _ n_ (λ xs B=>by cases B) (λ ct B=>by cases B))⟩⟩,cx⟩
    refine⟨_,z,b,bD,z,oB.same UF.base,λ pl fR cG _ bh _ d2 iT gz=>?_⟩;have ra:=UF.same bh;refine⟨pl,z,⟨_,aG.of d2⟩,ha (K:=K) (a:=pl) (xs:=[.ref fR,.ref cG]) (λ dm L J=>∃e5,SZ (λ hn=>L=[some (.ref l),some (.ref gv),some (.ref d),some (.ref b),some (.ref cl),e5,hn]) (hl H T.da T.fi J gv (ss.take (i+1))) (J pl=some (.lst [.ref fR,.ref cG])) (J fR=some (.tup [.str (st (aF bD)),.str (gB (M.gx (ag bD)))])/\J cG=some (.tup [.str (st (aD bD)),.str (gB (M.dR (ag bD)))])/\lp H J d (L1 (nb (ss.take i)) bD (i+1) dm) (2 * (nb (ss.take i)).length+dm)))
     ⟨_,_,z,ra,d2,iT,gz,ahf.f.same bh⟩ (λ i L J _ ⟨_,_,_,_,q,_⟩=>aG.of q) ?_ ?_⟩
    ·rintro dm uD c' eO lc ⟨hA,uC,rfl,pN,L6,C_,C',lW⟩;intro A;have L7:2 * (nb (ss.take i)).length+dm<100000:=by
      rw[ii,lt];have:dm<2:=by simpa using (c_.mp lc).1
      omega
     obtain⟨fc,n,p,rfl,s7,ar,zc⟩:∃fc n p,uD=V.ref fc/\eO fc=some (.tup [.str (st n),.str (gB p)])/\p<=4/\∀(J:aP)(g:Bytes->Option (Nat×Nat)),lp H J d (λ f9=>(L1 (nb (ss.take i)) bD (i+1) dm f9).or (if f9=n then some (p,i+1) else none)) (2 * (nb (ss.take i)).length+dm+1)->lp H J d (L1 (nb (ss.take i)) bD (i+1) (dm+1)) (2 * (nb (ss.take i)).length+(dm+1)):=by
      match dm,lc with
      |0,lc=>cases lc;exact⟨fR,aF bD,_,z,C_,Us _,λ J g h=>h⟩
      |1,lc=>cases lc;exact⟨cG,aD bD,_,z,C',Ut _,λ J g h=>h⟩
      |i+2,lc=>simp at lc
     obtain⟨aw,ahg,_,_⟩:=lW.ex;obtain⟨UG,UH⟩:=pN.CQ;have ahh:=(let ⟨_,_,_,_,_,_,R⟩:=UH;R.kE.len:UG.length=(ss.take (i+1)).length);refine⟨fc,_,z,dh.of s7,z,_,_,z,_,_,z,z,?_⟩;refine⟨_,z,d,z,.inl ⟨aw,.inl ahg⟩,_,z,_,z,_,z,gv,UG,_,z,UH,λ ahi ahj=>⟨ahi,_,z,.inl (aG.of ahj),hv,λ tp iI=>?_⟩⟩;rw[be,ahh,c5,rp ⇑1];have cm:aH eO (upd eO tp (.tup [.str (gB p),.int ((i+1:Nat):Int)])):=bp iI;obtain⟨r,fI,q1,bb,eF⟩:=(lW.same cm).put (n:=n) (p:=p) (j:=i+1) (tp:=tp) L7 aI ar;refine q1 _ ?_;obtain⟨_,ahk,_,_⟩:=lW.ex;have pO:=cm _ _ ahk;have L8:hl H T.da T.fi fI gv (ss.take (i+1)):=by obtain⟨dx,av,nd,fd,kvN,kvF,L4,W⟩:=pN.same cm;refine⟨dx,av,nd,fd,kvN,kvF,L4,⟨bb _ _ W.r.obj (cw W.r.obj pO ⇑3),bb _ _ W.r.lst (cw W.r.lst pO ⇑3),bb _ _ W.r.num (cw W.r.num pO ⇑3),bb _ _ W.r.fst (cw W.r.fst pO ⇑3),⟨W.r.kE.len,λ i a s ap ao=>?_⟩,W.r.CG,W.r.CH,W.r.small,W.r.kf,λ f n=>(W.r.q0 f n).imp_right λ⟨aX,l,D,G⟩=>⟨aX,l,D,bb _ _ G (cw G pO ⇑3)⟩,W.r.yM⟩,λ b o e=>bb _ _ (W.base b o e) (cy e nl),W.ol,W.on,W.of,W.q3⟩;obtain⟨ahl,az⟩:=W.r.kE.at_ i a s ap ao;exact⟨ahl,bb _ _ az (cw az pO ⇑3)⟩
     refine⟨_,_,z,L8,bb _ _ (cm _ _ L6) (cw (cm _ _ L6) pO ⇑3),bb _ _ (cm _ _ C_) (cw (cm _ _ C_) pO ⇑3),bb _ _ (cm _ _ C') (cw (cm _ _ C') pO ⇑3),zc fI (λ _=>none) eF⟩
    ·rintro c' eO ⟨hA,uC,rfl,pN,L6,C_,C',lW⟩;have ax:=M.abS v5 lN (j:=i+1) (s:=bD) (by rw[UC];exact ap);refine⟨_,_,_,_,z,pN,?_,?_,?_,?_⟩
     ·refine lp.at_ ?_;rw[C9 ae,<-ag5];obtain⟨⟨aw,a',a5,bn⟩,cx⟩:=lW;exact⟨⟨aw,a',by rw[cX];exact cK a5 (by show 2 * (nb (ss.take i)).length+2<=2 * ((nb (ss.take i)).length+1);omega),bn⟩,cx⟩
     ·rw[C9 ae];exact ax.1
     ·rw[C9 ae];exact ax.2
     ·rw[ak,C9 ae]
 ·rintro L J ⟨hP,dE,e5,hn,rfl,aM,dH,v5,lN,ak⟩;rw[be,a8.len] at ak;rw[List.drop_of_length_le (by rw[ii];exact bG _)] at ak;have ak:=ak;exact⟨cQ _,λ r ab=>k r _ (aM.base.trans (bp ab)) (aM.base.free ab) (by rw[ak];exact aI)⟩
theorem UI:∀n seen k,(M.up f n seen k).length<=n
 |0,_,_=>bG _
 |n+1,seen,k=>by
  unfold M.up;split;·exact cQ _
  ·split
   ·exact cQ _
   ·rw[cJ];exact DV (UI n _ _)
def ahm (l)(g):(M.fq l g).length<=l.length+1:=by
 unfold M.fq;split
 ·rw[cX,be];have:(l.takeWhile λ x=>x.2 !=g).length<=l.length:=(List.takeWhile_sublist _).length_le;simp;omega
 ·exact cQ _
def ahn (h:M.d9 ls=some t):t.length<=ls.length+5:=by
 unfold M.d9 at h;obtain⟨a,_,h⟩:=mq h;unfold M.ph at h;cases e:a7 ls 5 a with
 |none=>rw[e] at h;cases h
 |some x=>
  rw[e] at h;dsimp only at h;obtain⟨_,_,h⟩:=mq h;unfold M.iy at h;split at h;·cases h
  ·obtain⟨y,_,rfl⟩:=lv.mp h;refine cK (zb _) ?_;rw[cX];split
   ·simp
   ·have:=ahm (b' ls 2 x.2) (aF y.2);have G:(b' ls 2 x.2).length<=ls.length+1:=UI _ _ _;simp;omega
def aho (h:M.fv l=some t):t.length<=l.length+5:=by
 have key:∀(r b:Lines),M.jl b r=some t->t.length<=b.length+r.length+5:=by
  intro r;induction r with
  |nil=>intro b h;cases h
  |cons x r ih=>
   intro b h;unfold M.jl at h;cases e:M.d9 (b++[x]) with
   |some u=>rw[e] at h;cases h;have:=ahn e;simp at this⊢;omega
   |none=>rw[e] at h;have:=ih _ h;simp at this⊢;omega
 have:=key _ _ h;rw[M.kr] at this;simpa using this
def ahp (h:M.fv l=some t):t≠[]:=by
 have key:∀(r b:Lines),M.jl b r=some t->t≠[]:=by
  intro r;induction r with
  |nil=>intro b h;cases h
  |cons x r ih=>
   intro b h;unfold M.jl at h;cases e:M.d9 (b++[x]) with
   |some u=>rw[e] at h;cases h;exact Uc e
   |none=>rw[e] at h;exact ih _ h
 exact key _ _ h
def L9:⇑7 9 T.qP (ag8 T):=by
 refine bX T.qP.F BX λ H _ Q _ h=>?_;obtain⟨l,ss,rfl,cq,bR,bi,k⟩:=h;refine⟨z,λ _ _ _ _ ab _ _=>?_⟩;intro X;refine⟨_,(aJ (bQ 1 BX.nd (bf T.vh T.Jl (ahc T) ab (U (O 0) ai))) (aJ (bQ 2 BX.nd (mE (b9 fO (dJ fJ z T.eu eK (U (O 1) ai)) bc (b7 _)) (rX xm (O 0) t6 (qf (e0 o4 (hy jf (O 1) (t0 t1 bc) (λ _ _=>rfl)) bc))) (O 0))) (aJ (bQ 3 BX.nd (bf T.vb T.Jf (agB T) ab (U (O 2) ai))) (aN (a6 (mE (b9 fO (dJ fJ z T.eu eK (U (O 3) ai)) bc (b7 _)) (e0 jL (b_ (U (b5 T.Kx) ai)) (O 3)) (O 1))))))),?_⟩;obtain⟨as,ah,a8⟩:=id cq;refine⟨_,z,l,ss,z,cq,⇑1,λ cl H1 al L3 fC=>?_⟩;have cY:∀(aE:aP)(k3:Addr)(ahead:List Sen),aH H aE->aE cl=some (.lst (br (j_ (M.iD [] (nb ss)))))->gA T aE k3 ahead->ahead.length<=1000->j_ (Vbtaae.clash ss)=(match M.fv ahead with
   |some t=>7::t
   |none=>j_ (M.iD [] (nb ss)))->
   Eu (xf (EM (T6 T) [] qr (jG (i_ 2) je)) (mF 3)) (xb (OL (EG (o3 (mL λ i j=>V.bg (decide (j<i))) (nU (LN K) (jG (i_ 3) je)) (i' (.int 0)))) (o3 Pt (O' (jG (i' (.int 7)) je)) (i_ 3)) (i_ 1)))
    {a7:=λ _ J=>Q .b6 J,nM:=Q} [some (.ref l),some (.ref cl),some (.ref k3),none] aE:=by
  intro aE k3 ahead aq ahq ahr oF a3;refine⟨_,z,k3,ahead,z,ahr,oF,λ f2 bj aO _ L_=>?_⟩;refine⟨_,z,f2,_,z,.inl (aG.of L_),_,_,z,z,_,z,?_⟩;rw[du];cases gZ:M.fv ahead with
  |none=>rw[gZ] at a3;refine bZ (λ B=>absurd B ⇑0) (λ _=>⟨_,z,k cl bj (aq.trans aO) (by exact L3) (by rw[a3];exact aO _ _ ahq)⟩)
  |some t=>
   rw[gZ] at a3 L_;have ar:=pY.mpr (ahp gZ);refine bZ (λ _=>?_) (λ B=>absurd (by show decide ((0:Int)<(t.length:Nat))=true;simp;omega) B);refine⟨dY,λ p wa=>?_⟩;have bh:aH bj (upd bj p (.lst [.int 7])):=bp wa;refine⟨_,z,p,f2,_,_,z,z,aI,bh _ _ L_,?_,λ q aK=>k q _ (((aq.trans aO).trans bh).trans (bp aK)) (((aq.trans aO).trans bh).free aK) ?_⟩
   ·rw[du];have:=aho gZ;exact gP (by show 1+t.length<=4098;omega)
   ·rw[aI,a3];rfl
 refine⟨_,z,cl,_,z,.inl (aG.of fC),_,_,z,z,_,z,?_⟩;rw[du];rcases M.ab2 bi with⟨dp,dS⟩|⟨c,p,j,dp,dS,fD,hj⟩
 ·have dp:=dp;rw[dp];refine bZ (λ B=>absurd B ⇑0) (λ _=>⟨_,z,?_⟩);refine cY H1 l ss al fC (cq.same al) bR ?_;rw[dS,dp];cases M.fv ss<;>rfl
 ·have dp:=dp;have ar:=pY.mpr (L2 (c:=c));rw[dp];refine bZ (λ _=>?_) (λ B=>absurd (by simp;omega) B);have LO:(br (j_ (some c))).getLast? =some (.int ((j+1:Nat):Int)):=by
   unfold br j_;dsimp only;rw[dS,DR];have:(c.1::(p++[j+1])).getLast? =some (j+1):=by rw[<-tu];exact List.getLast?_concat
   rw[this];rfl
  refine⟨_,z,_,z,_,z,cl,_,_,_,z,z,aG.of fC,xl (by rw[dp];exact LO),_,_,z,z,_,z,l,_,z,aG.of (al _ _ ah),λ q aK=>?_⟩;rw[show((j+1:Nat):Int) - 1=(j:Int) by omega,LZ,<-wQ];have aq:aH H1 (upd H1 q (.lst ((as.take j).map V.ref))):=bp aK;refine cY _ q (ss.take j) (al.trans aq) (aq _ _ fC) ⟨as.take j,aI,(a8.take j).same (al.trans aq)⟩ (by rw[c5];omega) ?_;rw[hj,dp];cases M.fv (ss.take j)<;>rfl
def zd:⇑7 10 T.og (ag9 T):=by
 refine bX T.og.F aem λ _ _ _ _ h=>?_;obtain⟨l,ss,rfl,cq,bR,bi,k⟩:=h;refine⟨z,λ _ _ _ _ ab _ _=>?_⟩;intro X;refine⟨_,(aN (a6 (rI (hX eG (dJ fJ z T.eu eK (U (bf T.qP T.yq (L9 T) ab (U (O 0) ai)) ai)) bc (b7 _)) (nN (hX eG (dJ fJ z T.eu eK (U (bf T.sD T.B5 (TS T) ab (U (O 0) ai)) ai)) bc (b7 _)))))),?_⟩;refine⟨_,z,l,ss,z,cq,bR,bi,λ cl H1 al _ fC=>?_⟩;refine⟨cl,_,z,.inl (aG.of fC),z,_,z,?_⟩;unfold Vbtaae.makes at k;rw[M.Bb] at k;rw[du];cases e:Vbtaae.clash ss with
 |some c=>rw[e] at k;have ar:=pY.mpr (L2 (c:=c));rw[eA (λ B=>by injection B with B;omega)];exact c7 (k H1 al)
 |none=>
  rw[e] at k;refine df ⟨_,z,l,ss,z,cq.same al,⇑1,λ r aE aq _ ab=>⟨r,_,z,.inl (aG.of ab),z,?_⟩⟩;rw[du];have ao:decide (V.int ((M.m2 ss).length:Int)=V.int 0)=((none:Option (Nat×List Nat)).isNone&&(M.m2 ss).isEmpty):=by
   cases M.m2 ss with
   |nil=>rfl
   |cons x r=>rw[eA (λ B=>by injection B with B;simp at B;omega)];rfl
  rw[ao];exact k aE (al.trans aq)
theorem UJ {bO:Type}(p q r:bO->Bool)(hd:∀x,p x=true->q x=true->False)(ar:∀x,p x=true->r x=true)(aK:∀x,q x=true->r x=true):∀l:List bO,(l.filter p).length+(l.filter q).length<=(l.filter r).length
 |[]=>bG _
 |x::l=>by
  have ih:=UJ p q r hd ar aK l;rw[g4,g4,g4];cases a:p x with
  |true=>
   have b:q x=false:=by cases b:q x with
    |false=>rfl
    |true=>exact(hd x a b).elim
   rw[ar x a,b];simp;omega
  |false=>
   cases b:q x with
   |true=>rw[aK x b];simp;omega
   |false=>cases r x<;>simp<;>omega
theorem L' (ls:Lines)(f:Nat):∀ks:List Bytes,ks.Nodup->(ks.flatMap λ m=>ls.filter λ x=>cg f m x.2).length<=(ls.filter λ x=>ks.contains (aF x.2)).length
 |[],_=>cQ _
 |m::r,h=>by
  obtain⟨D,G⟩:=i6.mp h;have ih:=L' ls f r G;rw[my,cX];refine cK (NW ih _) (UJ _ _ _ ?_ ?_ ?_ ls)
  ·intro x a b;rw[(M.fK.mp a).2] at b;exact D (nA.mp b)
  ·intro x a;rw[(M.fK.mp a).2];simp
  ·intro x a;have:=nA.mp a;exact nA.mpr (cu _ this)
def pP (ss)(f)(k):(M.dW (nb ss) f k).length<=ss.length:=by
 unfold M.dW;have D:(Vbtaae.sortB ((((nb ss).filter λ x=>ag x.2==f&&(bF (nb ss) k).contains (aF x.2)).map λ x=>aD x.2))).Nodup:=(M.pm _).imp λ {_ _} h=>λ B=>by rw[B,M.qx] at h;cases h
 have:=oL D (λ x aa=>M.k7.mp aa);refine cK this ?_;rw[be];exact cK (hR _ _) (by rw[ii];exact bG _)
def Db (ss)(p):(M.d4 (nb ss) p).length<=ss.length:=by
 unfold M.d4 M.l3;have D:(Vbtaae.sortB (((nb ss).filter λ x=>p (ag x.2)).map λ x=>aF x.2)).Nodup:=(M.pm _).imp λ {_ _} h=>λ B=>by rw[B,M.qx] at h;cases h
 have:=oL D (λ x aa=>M.k7.mp aa);refine cK this ?_;rw[be];exact cK (hR _ _) (by rw[ii];exact bG _)
def ahs (ls)(f)(k):(a7 ls f k=none/\b' ls f k=[])\/∃x r,a7 ls f k=some x/\b' ls f k=x::r:=by
 unfold b';cases e:a7 ls f k with
 |none=>exact .inl ⟨z,M.r_ _ e⟩
 |some x=>exact .inr ⟨x,_,z,M.qt _ ⇑2 e⟩
structure ee (aZ:Addr)(H0 H:aP)(l:Addr)(ss:List Sen):Prop where
 base:aH H0 H
 own:H0 l=none
 ex:∃as,H l=some (.lst (as.map V.ref))/\dg aZ H as ss
def ee.same (h:ee aZ H0 H l ss)(k:aH H J):ee aZ H0 J l ss:=let ⟨as,D,G⟩:=h.ex;⟨h.base.trans k,h.own,as,k _ _ D,G.same k⟩
def dg.UK (h:dg aZ H as ss)(ah:H l=some (.lst xs)):dg aZ (upd H l (.lst ys)) as ss:=⟨h.len,λ i a s ap ao=>let ⟨dx,e⟩:=h.at_ i a s ap ao;⟨dx,bw e (cw e ah ⇑3)⟩⟩
def dg.append (h:dg aZ H as ss)(g:dg aZ H bs us):dg aZ H (as++bs) (ss++us):=by
 refine⟨by simp[h.len,g.len],λ i a s ap ao=>?_⟩;by_cases q:i<as.length
 ·rw[jx q] at ap;rw[jx (by rw[<-h.len];exact q)] at ao;exact h.at_ i a s ap ao
 ·rw[ti ⇑1] at ap;rw[ti (by rw[<-h.len];omega),<-h.len] at ao;exact g.at_ _ a s ap ao
def ee.len (h:ee aZ H0 H l ss):∃as,H l=some (.lst (as.map V.ref))/\as.length=ss.length/\dg aZ H as ss:=let ⟨as,D,G⟩:=h.ex;⟨as,D,G.len,G⟩
def ee.push (h:ee aZ H0 H l ss)(D:H l=some (.lst (as.map V.ref)))(G:dg aZ H as ss)(ar:H p=some (.ins aZ dx (pA s))):ee aZ H0 (upd H l (.lst (as.map V.ref++[.ref p]))) l (ss++[s]):=by refine⟨ev h.base h.own,h.own,as++[p],by rw[aI,db];rfl,?_⟩;exact(G.UK D).snoc ⟨dx,bw ar (cw ar D ⇑3)⟩
def ee.extend (h:ee aZ H0 H l ss)(D:H l=some (.lst (as.map V.ref)))(G:dg aZ H as ss)(an:dg aZ H bs us):ee aZ H0 (upd H l (.lst (as.map V.ref++bs.map V.ref))) l (ss++us):=by refine⟨ev h.base h.own,h.own,as++bs,by rw[aI,db],?_⟩;exact(G.append an).UK D
inductive aht:mD->Prop|mk{E}(a l:Addr)(ss:List Sen)(f:Nat)(k:Bytes):ν=[.ref a,.int (f:Int),.ref l]->fL T η a ss->ss.length<=1000->M.hC (a7 (nb ss) 2)->η l=some (.lst (bM (bF (nb ss) k)))->(∀r J,aH η J->η r=none->J r=some (.lst (bM (M.dW (nb ss) f k)))->θ (.ref r) J)->aht E
inductive ahu:mD->Prop|mk{E}a ss k:ν=[.ref a,.str (st k)]->fL T η a ss->ss.length<=1000->M.hC (a7 (nb ss) 2)->(∀r J,ee T.da η J r (M.iB (nb ss) k)->θ (.ref r) J)->ahu E
inductive ahv:mD->Prop|mk{E}a ss t:ν=[.ref a,.str (st t)]->fL T η a ss->ss.length<=1000->M.hC (a7 (nb ss) 2)->M.d3 (nb ss) t=true->(∀r J,ee T.da η J r (M.jk (nb ss) t (M.cV (nb ss) t))->θ (.ref r) J)->ahv E
inductive ahw:mD->Prop|mk{E}l ss:ν=[.ref l]->gA T η l ss->ss.length<=1000->M.hC (a7 (nb ss) 2)->(∀r J,ee T.da η J r (M.hH (nb ss))->θ (.ref r) J)->ahw E
def kI (f:Nat)(k w:Bytes):Sen:=if f=3 then .can k w else .counts k w
def ahx (aS:f=3\/f=4)(k w):pA (kI f k w)=vX (f:Int) (st k) (st w) 1:=by rcases aS with e|e<;>subst e<;>rfl
def Ma:⇑7 2 T.qQ (aht T):=by
 refine bX T.qQ.F yh λ H _ _ _ h=>?_;obtain⟨a,l,ss,f,aQ,rfl,aM,_,aB,ah,k⟩:=h;refine⟨z,λ _ _ _ _ ab _ _=>?_⟩;intro X;refine⟨_,(aJ (bQ 3 yh.nd (b_ ai)) (aJ (gs f1 z (eN (O 2)) (ib 4 yh.nd) (aN (eY (fX qY (O 3) (U (jg z yh.nd (eN (e4 T.bB T.c4 T.qI T.yz (λ _ _ _=>rfl) (Ln T) ab (O 0) (U (O 1) (U (O 4) ai)))) (hB (own:=[("number",5)]) z) (λ _ _ _ _ _=>(gF (i:=5) yh.nd z (Or.inl z) (Or.inr z))) (λ _ _ _ _ _=>k0) (λ _ _ _ _ _=>(hM T.bB T.gO (e4 T.bB T.c4 T.hI T.iZ (λ _ _ _=>rfl) (j9 T) ab (O 0) (U (O 5) ai))))) ai))))) (aN (a6 (GY z T.sX T.yK (O 3)))))),?_⟩;refine⟨cQ _,λ g2 jS=>?_⟩;have al:aH H (upd H g2 (.lst [])):=bp jS;have f8:=L' (nb ss) f (bF (nb ss) aQ) (M.FX aB aQ);have ali:((bF (nb ss) aQ).flatMap λ m=>(nb ss).filter λ x=>cg f m x.2).length<=ss.length:=cK f8 (cK (hR _ _) (by rw[ii];exact bG _));refine⟨_,z,l,z,⟨_,aG.of (al _ _ ah)⟩,ha (K:=K) (a:=l) (xs:=bM (bF (nb ss) aQ)) (λ i L J=>XL (λ dE=>L=[some (.ref a),some (.int f),some (.ref l),some (.ref g2),dE,none]) (aH H J) (J g2=some (.lst (bM ((((bF (nb ss) aQ).take i).flatMap λ m=>(nb ss).filter λ x=>cg f m x.2).map λ x=>aD x.2)))))
  ⟨none,z,al,aI⟩ (λ i L J _ ⟨_,_,q,_⟩=>aG.of (q _ _ ah)) ?_ ?_⟩
 ·rintro i _ L J aj ⟨dE,rfl,aq,s8⟩;intro A;obtain⟨m,hm,rfl⟩:=jt aj;refine⟨_,z,.inl ⟨z,_,aG.of s8⟩,_,z,a,z,⟨ss,aM.same aq⟩,_,z,_,z,a,ss,f,m,z,aM.same aq,λ bk bj aO _ fZ=>⟨bk,z,⟨_,aG.of fZ⟩,λ af cr=>?_⟩⟩;have ln:=aq.trans aO;refine km (K:=K) (a:=bk) (xs:=br (numsOf ss f m)) (fY bj af λ i=>bM ((((nb ss).filter λ x=>cg f m x.2).take i).map λ x=>aD x.2)) (.start cr z) (λ i J _ h=>aG.of (h.1 _ _ fZ)) ?_ ?_
  ·rintro j x b1 a0 h;obtain⟨_,pJ,rfl⟩:=s3 a0;unfold numsOf at pJ;rw[d5] at pJ;cases ex:((nb ss).filter λ x=>cg f m x.2)[j]? with
   |none=>rw[ex] at pJ;cases pJ
   |some x=>
    rw[ex] at pJ;cases pJ;have aa:=(dX.mp (gc ex)).1;have bh:=ln.trans h.1;refine⟨z,lk ⟨_,z,a,z,⟨ss,aM.same bh⟩,_,z,a,ss,x.1,x.2,z,aM.same bh,aa,λ c ak=>⟨c,x.2,z,ak,h.step cr (aH.refl _) ?_ ?_⟩⟩⟩
    ·show bM _=bM _++_;rw[eH ex,db,pE];rfl
    ·rw[fj,be,c5];have:=hR (λ x:Nat×Sen=>cg f m x.2) (nb ss);rw[ii] at this;exact em ⇑1
  ·rintro b1 ⟨D,G⟩;have ap:(br (numsOf ss f m)).length=((nb ss).filter λ x=>cg f m x.2).length:=by rw[du];unfold numsOf;rw[be]
   rw[ap] at G;dsimp only at G;rw[fy] at G;have ahy:=D _ _ (aO _ _ s8);refine⟨g2,af,_,_,z,z,ahy,G,?_,?_⟩
   ·rw[fj,fj,be,be];have QE:=L' (nb ss) f ((bF (nb ss) aQ).take i) ((M.FX aB aQ).sublist (N5 _ _));have uj:((nb ss).filter λ x=>((bF (nb ss) aQ).take i).contains (aF x.2)).length<=ss.length:=cK (hR _ _) (by rw[ii];exact bG _);have alj:((nb ss).filter λ x=>cg f m x.2).length<=ss.length:=cK (hR _ _) (by rw[ii];exact bG _);exact gP ⇑1
   ·refine⟨_,z,ev (ln.trans D) jS,?_⟩;rw[aI,eH hm,tr,db,pE];simp
 ·rintro L J ⟨dE,rfl,aq,s8⟩;rw[fj,fy,s6] at s8;refine⟨_,z,g2,z,.inr ⟨_,aG.of s8,by rw[be,be];omega,λ _ p LG hm ar=>k p _ (aq.trans (bp ar)) (aq.free ar) ?_⟩⟩;rw[aI];unfold M.dW;rw[TW LG λ B=>(hm B).trans ?_];rw[cd,cd];constructor
  ·rintro⟨b,Y,rfl⟩;obtain⟨x,aa,rfl⟩:=cd.mp Y;obtain⟨m,Fq,aa⟩:=ro.mp aa;obtain⟨D,G⟩:=dX.mp aa;obtain⟨an,aU⟩:=M.fK.mp G;exact⟨_,cd.mpr ⟨x,dX.mpr ⟨D,by rw[an,aU];simp[Fq]⟩,z⟩,z⟩
  ·rintro⟨b,Y,rfl⟩;obtain⟨x,aa,rfl⟩:=cd.mp Y;obtain⟨D,G⟩:=dX.mp aa;rw[dF] at G;exact⟨_,cd.mpr ⟨x,ro.mpr ⟨aF x.2,nA.mp G.2,dX.mpr ⟨D,M.fK.mpr ⟨↥G.1,z⟩⟩⟩,z⟩,z⟩
def ee.new (h:H l=none):ee aZ H (upd H l (.lst [])) l []:=⟨bp h,h,[],aI,dg.nil⟩
def ee.one (al:aH H H1)(ar:H1 p=some (.ins aZ dx (pA s)))(ah:H1 l=none):ee aZ H (upd H1 l (.lst [.ref p])) l [s]:=⟨al.trans (bp ah),al.free ah,[p],aI,dg.snoc dg.nil ⟨dx,bw ar (cy ar ah)⟩⟩
def ee.less (h:ee aZ H1 H l ss)(k:aH H0 H1):ee aZ H0 H l ss:=⟨k.trans h.base,k.free h.own,h.ex⟩
def ahz (ss)(k):(M.iB (nb ss) k).length<=1+2 * ss.length:=by unfold M.iB;have D:=pP ss 3 k;have G:=pP ss 4 k;simp;omega
def ahA (ss)(t k):(M.jk (nb ss) t k).length<=2+2 * ss.length:=by unfold M.jk;have D:=pP ss 3 k;have G:=pP ss 4 k;cases a7 (nb ss) 11 t<;>simp<;>omega
def ahB (o)(h:∀x,o=some x->ag x.2=6\/ag x.2=7\/ag x.2=8):Vbtaae.truth (M.fu o==1)=M.fu o:=by
 cases o with
 |none=>rfl
 |some x=>have aa:=h x z;show Vbtaae.truth (bv x.2==1)=bv x.2;cases e:x.2<;>rw[e] at aa<;>simp[ag] at aa<;>(rename_i y;cases y<;>rfl)
def ahC:⇑7 5 T.vi (ahu T):=by
 refine bX T.vi.F sy λ H vs Q E h=>?_;obtain⟨a,ss,aQ,rfl,aM,bR,aB,k⟩:=h;refine⟨z,λ _ _ _ _ ab a1 oC=>?_⟩;intro X;refine⟨_,(aJ (bQ 2 sy.nd (bf T.j4 T.l' (ox T) ab (U (O 0) (U (O 1) ai)))) (aJ (cb (b9 fO (dJ fJ z T.eu eK (U (O 2) ai)) bc (b7 _)) (aN (bQ 3 sy.nd (b_ (U (q6 T.lf T.oj T.om (q4 T) ab (U (b5 T.ot) (U (O 1) (U (hy jf (O 2) bc (λ _ _=>rfl)) (U bc ai))))) ai)))) (aN (bQ 3 sy.nd (b_ (U (q6 T.lf T.oj T.om (q4 T) ab (U (b5 T.sR) (U (O 1) (U g8 (U bc ai))))) ai))))) (aJ (gs f1 z (Ab (gT (U (b5 T.sS) (U (b5 T.sT) ai)))) (gF (i:=4) sy.nd z (Or.inr z)) (aN (eY (fX qY (O 3) (U (jg z sy.nd (eN (bf T.qQ T.yr (Ma T) ab (U (O 0) (U (O 4) (U (O 2) ai))))) (hB (own:=[("word",5)]) z) (λ _ _ _ _ _=>(gF (i:=5) sy.nd z (Or.inl z) (Or.inr z))) (λ _ _ _ _ _=>k0) (λ _ _ _ _ _=>(q6 T.lf T.oj T.om (q4 T) ab (U (O 4) (U (O 1) (U (O 5) (U bc ai))))))) ai))))) (aN (a6 (O 3)))))),?_⟩;refine⟨_,z,_,z,a,ss,aQ,z,aM,λ fM H1 al alk hO=>?_⟩;refine⟨_,z,fM,_,z,.inl (aG.of hO),_,_,z,z,_,z,?_⟩;rw[fj];have cF:=pP ss 3 aQ;have fg:=pP ss 4 aQ;rcases ahs (nb ss) 2 aQ with⟨ap,ao⟩|⟨x,r,ap,ao⟩
 case' inl=>
  have h9:bF (nb ss) aQ=[aQ]:=by unfold bF;rw[ao];rfl
  rw[show(bF (nb ss) aQ).length=1 by rw[h9];rfl];refine bZ (λ B=>absurd B ⇑0) (λ _=>?_);refine⟨_,z,1,st aQ,st [],1,z,λ p dx aE aq wa ar=>⟨dY,λ av fw=>?_⟩⟩;have j8:ee T.da H (upd aE av (.lst [.ref p])) av [Sen.kind aQ]:=ee.one (al.trans aq) ar fw;have lW:M.iB (nb ss) aQ=[Sen.kind aQ]++((M.dW (nb ss) 3 aQ).map (kI 3 aQ)++(M.dW (nb ss) 4 aQ).map (kI 4 aQ)):=by unfold M.iB;rw[ap];rfl
  generalize Sen.kind aQ=Dc at j8 lW
 case' inr=>
  have h9:bF (nb ss) aQ=aQ::x.2::r.map (·.2):=by unfold bF;rw[ao];rfl
  have hE:(bF (nb ss) aQ).length=r.length+2:=by rw[h9];simp
  rw[hE];refine bZ (λ _=>?_) (λ B=>absurd (by show decide ((1:Int)<((r.length+2:Nat):Int))=true;simp;omega) B);refine⟨_,z,_,z,fM,_,_,_,z,z,aG.of hO,at_of (j:=1) (v:=.str (st x.2)) z (by rw[h9];rfl),2,st aQ,st x.2,1,z,λ p dx aE aq wa ar=>⟨dY,λ av fw=>?_⟩⟩;have j8:ee T.da H (upd aE av (.lst [.ref p])) av [Sen.under aQ x.2]:=ee.one (al.trans aq) ar fw;have lW:M.iB (nb ss) aQ=[Sen.under aQ x.2]++((M.dW (nb ss) 3 aQ).map (kI 3 aQ)++(M.dW (nb ss) 4 aQ).map (kI 4 aQ)):=by unfold M.iB;rw[ap];rfl
  generalize Sen.under aQ x.2=Dc at j8 lW
 all_goals
  have wb:=cy (aq _ _ hO) fw;have wc:upd aE av (.lst [.ref p]) fM=some (.lst (bM (bF (nb ss) aQ))):=bw (aq _ _ hO) wb;generalize upd aE av (.lst [.ref p])=bj at j8 wc;refine⟨hv,λ tp iI=>?_⟩;have bh:aH bj (upd bj tp (.tup [.int 3,.int 4])):=bp iI;refine⟨tp,z,⟨_,dh.of aI⟩,ED (K:=K) (a:=tp) (xs:=[.int 3,.int 4]) (λ i L J=>SZ (λ dE=>L=[some (.ref a),some (.str (st aQ)),some (.ref fM),some (.ref av),dE,none]) (J fM=some (.lst (bM (bF (nb ss) aQ)))) (J tp=some (.tup [.int 3,.int 4])) (ee T.da H J av ([Dc]++((if 1<=i then(M.dW (nb ss) 3 aQ).map (kI 3 aQ) else[])++(if 2<=i then(M.dW (nb ss) 4 aQ).map (kI 4 aQ) else[])))))
   ⟨none,z,bh _ _ wc,aI,j8.same bh⟩ (λ i L J _ ⟨_,_,_,q,_⟩=>dh.of q) ?_ ?_⟩
  ·rintro i y L J aj ⟨dE,rfl,jM,pL,S⟩;obtain⟨f,aS,rfl,mG⟩:∃f:Nat,(f=3\/f=4)/\y=.int (f:Int)/\([Dc]++((if 1<=i+1 then(M.dW (nb ss) 3 aQ).map (kI 3 aQ) else[])++(if 2<=i+1 then(M.dW (nb ss) 4 aQ).map (kI 4 aQ) else[])))=
     ([Dc]++((if 1<=i then(M.dW (nb ss) 3 aQ).map (kI 3 aQ) else[])++(if 2<=i then(M.dW (nb ss) 4 aQ).map (kI 4 aQ) else[])))++(M.dW (nb ss) f aQ).map (kI f aQ):=by
    match i,aj with
    |0,aj=>cases aj;exact⟨3,.inl z,z,⇑2⟩
    |1,aj=>cases aj;exact⟨4,.inr z,z,⇑2⟩
    |i+2,aj=>simp at aj
   obtain⟨as,ij,oF,s9⟩:=S.len;have alm:=pP ss f aQ;refine⟨_,z,.inl ⟨z,_,aG.of ij⟩,_,z,_,z,_,z,a,fM,ss,f,aQ,z,aM.same S.base,bR,aB,jM,λ g2 b1 ck aln jS=>⟨g2,z,⟨_,aG.of jS⟩,λ af cr=>?_⟩⟩;refine km (K:=K) (a:=g2) (xs:=bM (M.dW (nb ss) f aQ)) (λ i eO=>ee T.da b1 eO af (((M.dW (nb ss) f aQ).take i).map (kI f aQ))) (ee.new cr) (λ i J _ h=>aG.of (h.base _ _ jS)) ?_ ?_
   ·rintro j B eO a0 h;obtain⟨Bx,ahD,rfl⟩:=jt a0;refine⟨z,lk ⟨_,z,_,z,_,z,(f:Int),st aQ,st Bx,1,z,λ p dx fI cm wa ar=>?_⟩⟩;obtain⟨bs,wd,np,q5⟩:=(h.same cm).len;refine⟨_,wd,?_,?_⟩
    ·rw[be,np,be,c5];exact em ⇑1
    ·have:=(h.same cm).push wd q5 (s:=kI f aQ Bx) (by rw[ahx aS];exact ar);rw[eH ahD,db];exact this
   ·rintro eO h;rw[fj,fy] at h;obtain⟨bs,wd,np,q5⟩:=h.len;have hQ:=ck.trans h.base;refine⟨av,af,_,_,z,z,hQ _ _ ij,wd,?_,?_⟩
    ·rw[be,be,oF,np,be];refine gP ?_;simp only[cX,cJ,p4];split<;>split<;>simp<;>omega
    ·refine⟨_,z,bw (hQ _ _ jM) wb,bw (hQ _ _ pL) (cw pL ij ⇑3),?_⟩;rw[mG];exact(S.same hQ).extend (hQ _ _ ij) (s9.same hQ) q5
  ·rintro L J ⟨dE,rfl,jM,pL,S⟩;refine⟨_,z,k av J ?_⟩;rw[lW];exact S
def ahE:⇑7 5 T.vj (ahv T):=by
 refine bX T.vj.F u1 λ H _ _ _ h=>?_;obtain⟨a,ss,t,rfl,aM,bR,aB,ax,k⟩:=h;refine⟨z,λ _ _ _ _ ab _ _=>?_⟩;intro X;refine⟨_,(aJ (bQ 2 u1.nd (bf T.j4 T.l' (ox T) ab (U (O 0) (U (bf T.ma T.px (s4 T) ab (U (O 0) (U (O 1) ai))) ai)))) (aJ (bQ 3 u1.nd (b_ (U (q6 T.lf T.oj T.om (q4 T) ab (U (b5 T.mb) (U (O 1) (U (hy jf (O 2) bc (λ _ _=>rfl)) (U bc ai))))) ai))) (aJ (gs f1 z (eN (bf T.qQ T.yr (Ma T) ab (U (O 0) (U (b5 T.sS) (U (O 2) ai))))) (ib 4 u1.nd) (aN (eY (fX hK (O 3) (U (q6 T.lf T.oj T.om (q4 T) ab (U (b5 T.sU) (U (O 1) (U (O 4) (U (cZ (bf T.held T.yo (LJ T) ab (U (O 0) (U (O 1) (U (O 2) (U (b5 T.sS) (U (O 4) ai)))))) z) ai))))) ai))))) (aJ (gs f1 z (eN (bf T.qQ T.yr (Ma T) ab (U (O 0) (U (b5 T.sT) (U (O 2) ai))))) (ib 5 u1.nd) (aN (eY (fX hK (O 3) (U (q6 T.lf T.oj T.om (q4 T) ab (U (b5 T.Ci) (U (O 1) (U (O 5) (U (cZ (bf T.held T.yo (LJ T) ab (U (O 0) (U (O 1) (U (O 2) (U (b5 T.sT) (U (O 5) ai)))))) z) ai))))) ai))))) (aJ (bQ 6 u1.nd (e4 T.bB T.c4 T.jo T.lh (λ _ _ _=>rfl) (nk T) ab (O 0) (U (b5 T.sV) (U (O 1) ai)))) (aJ (cb (b9 fO (O 6) bc (b7 _)) (aN (eY (fX hK (O 3) (U (q6 T.lf T.oj T.om (q4 T) ab (U (b5 T.sV) (U (O 1) (U (hM T.bB T.gO (e4 T.bB T.c4 T.hI T.iZ (λ _ _ _=>rfl) (j9 T) ab (O 0) (U (O 6) ai))) (U bc ai))))) ai)))) cj) (aN (a6 (O 3))))))))),?_⟩;generalize ahF:M.cV (nb ss) t=aQ at k;refine⟨_,z,_,z,_,z,a,ss,t,z,aM,ax,λ _ UL=>?_⟩;rw[ahF];refine⟨a,ss,aQ,z,aM.same UL,λ fM _ al _ hO=>?_⟩;have ahG:=UL.trans al;have cF:=pP ss 3 aQ;have fg:=pP ss 4 aQ;refine⟨_,z,_,z,fM,_,_,_,z,z,aG.of hO,at_of (j:=0) (v:=.str (st aQ)) z z,5,st t,st aQ,1,z,λ p dx aE aq _ ar=>⟨dY,λ av fw=>?_⟩⟩;have j8:ee T.da H (upd aE av (.lst [.ref p])) av [Sen.isA t aQ]:=ee.one (ahG.trans aq) ar fw;have wb:=cy (aq _ _ hO) fw;have wc:upd aE av (.lst [.ref p]) fM=some (.lst (bM (bF (nb ss) aQ))):=bw (aq _ _ hO) wb;generalize upd aE av (.lst [.ref p])=bj at j8 wc;refine⟨_,z,_,z,a,fM,ss,3,aQ,z,aM.same j8.base,bR,aB,wc,λ nq _ bh LS v_=>?_⟩;have ahH:nq≠av:=λ B=>by subst B;obtain⟨as,h,_⟩:=j8.ex;rw[h] at LS;cases LS
 refine⟨nq,z,⟨_,aG.of v_⟩,ha (K:=K) (a:=nq) (xs:=bM (M.dW (nb ss) 3 aQ)) (λ i L J=>SZ (λ dE=>L=[some (.ref a),some (.str (st t)),some (.ref fM),some (.ref av),dE,none,none]) (J fM=some (.lst (bM (bF (nb ss) aQ)))) (J nq=some (.lst (bM (M.dW (nb ss) 3 aQ)))) (ee T.da H J av ([Sen.isA t aQ]++((M.dW (nb ss) 3 aQ).take i).map λ a=>Sen.told t a (M.fu (M.gj (nb ss) t aQ a)==1))))
  ⟨none,z,bh _ _ wc,v_,j8.same bh⟩ (λ i L J _ ⟨_,_,_,q,_⟩=>aG.of q) ?_ ?_⟩
 ·rintro i y L J aj ⟨dE,rfl,jM,iR,S⟩;intro A;obtain⟨q,aK,rfl⟩:=jt aj;obtain⟨as,ij,oF,s9⟩:=S.len;refine⟨_,z,.inl ⟨z,_,aG.of ij⟩,_,z,_,z,_,z,_,z,_,z,_,z,a,fM,ss,t,aQ,q,3,z,aM.same S.base,jM,.inl z,λ v' eO ck ahI s_=>?_⟩;obtain⟨Mb,s_⟩:=s_;refine⟨v',_,Mb,_,_,z,s_,T.jq,T.vO,LI _ _ _,6,st t,st q,M.fu (M.say (nb ss) 3 t aQ q),z,λ ahJ ze fI cm ahK Mc=>?_⟩;have hQ:=ck.trans cm;refine⟨av,_,_,z,z,hQ _ _ ij,?_,?_⟩
  ·rw[be,oF,cX,be,c5];exact em (by simp;omega)
  ·refine⟨_,z,bw (hQ _ _ jM) wb,bw (hQ _ _ iR) ahH,?_⟩;rw[eH aK,db,<-iL];refine(S.same hQ).push (hQ _ _ ij) (s9.same hQ) (dx:=ze) (s:=Sen.told t q (M.fu (M.gj (nb ss) t aQ q)==1)) ?_;rw[Mc];have n4:=ahB (M.gj (nb ss) t aQ q) (λ _ aa=>by
    have:=(M.Bn (f:=3) (t:=t) (k:=aQ) (w:=q) aa).2.2;rcases this with⟨_,⟨B,_⟩|⟨B|B,_⟩⟩|⟨B,_⟩
    ·exact .inl B
    ·exact .inr (.inl B)
    ·exact .inr (.inr B)
    ·exact absurd z B)
   show some (gn.ins T.da ze (vX 6 (st t) (st q) (M.fu (M.gj (nb ss) t aQ q))))=some (gn.ins T.da ze (vX 6 (st t) (st q) (Vbtaae.truth (M.fu (M.gj (nb ss) t aQ q)==1))));rw[n4]
 rintro L eO ⟨dE,rfl,UM,_,nc⟩;rw[fj,fy] at nc;refine⟨_,z,_,z,a,fM,ss,4,aQ,z,aM.same nc.base,bR,aB,UM,λ bk fI cm zf fZ=>?_⟩;have ahL:bk≠av:=λ B=>by subst B;obtain⟨as,h,_⟩:=nc.ex;rw[h] at zf;cases zf
 refine⟨bk,z,⟨_,aG.of fZ⟩,ha (K:=K) (a:=bk) (xs:=bM (M.dW (nb ss) 4 aQ)) (λ i L J=>SZ (λ e5=>L=[some (.ref a),some (.str (st t)),some (.ref fM),some (.ref av),dE,e5,none]) (J fM=some (.lst (bM (bF (nb ss) aQ)))) (J bk=some (.lst (bM (M.dW (nb ss) 4 aQ)))) (ee T.da H J av ([Sen.isA t aQ]++((M.dW (nb ss) 3 aQ).map λ a=>Sen.told t a (M.fu (M.gj (nb ss) t aQ a)==1))++((M.dW (nb ss) 4 aQ).take i).map λ p=>Sen.value p t (M.fu (M.hG (nb ss) t aQ p)))))
  ⟨none,z,cm _ _ UM,fZ,by rw[wN,dc,hr];exact nc.same cm⟩ (λ i L J _ ⟨_,_,_,q,_⟩=>aG.of q) ?_ ?_⟩
 ·rintro i y L J aj ⟨e5,rfl,jM,iR,S⟩;intro A;obtain⟨q,aK,rfl⟩:=jt aj;obtain⟨as,ij,oF,s9⟩:=S.len;refine⟨_,z,.inl ⟨z,_,aG.of ij⟩,_,z,_,z,_,z,_,z,_,z,_,z,a,fM,ss,t,aQ,q,4,z,aM.same S.base,jM,.inr z,λ v' eO ck ahI s_=>?_⟩;obtain⟨Mb,s_⟩:=s_;refine⟨v',_,Mb,_,_,z,s_,T.jq,T.vO,LI _ _ _,9,st t,st q,M.fu (M.say (nb ss) 4 t aQ q),z,λ ahJ ze fI cm ahK Mc=>?_⟩;have hQ:=ck.trans cm;refine⟨av,_,_,z,z,hQ _ _ ij,?_,?_⟩
  ·rw[be,oF,cX,cX,be,be,c5];exact em (by simp;omega)
  ·refine⟨_,z,bw (hQ _ _ jM) wb,bw (hQ _ _ iR) ahL,?_⟩;rw[eH aK,db,<-iL];exact(S.same hQ).push (hQ _ _ ij) (s9.same hQ) (dx:=ze) (s:=Sen.value q t (M.fu (M.hG (nb ss) t aQ q))) Mc
 rintro L _ ⟨e5,rfl,_,_,Dd⟩;rw[fj,fy] at Dd;refine⟨_,z,a,z,⟨ss,aM.same Dd.base⟩,_,z,a,ss,11,t,z,aM.same Dd.base,λ jO fp=>?_⟩;have zg:=Dd.same fp;obtain⟨as,ij,oF,s9⟩:=zg.len;refine⟨_,z,_,_,z,z,_,z,?_⟩;rcases yW (ss:=ss) (f:=11) (k:=t) with⟨e,cD⟩|⟨bD,ap,ao,bz,fe,fT⟩
 ·rw[cD];refine bZ (λ B=>absurd B ⇑0) (λ _=>⟨_,z,k av jO ?_⟩);have zc:M.jk (nb ss) t aQ=[Sen.isA t aQ]++((M.dW (nb ss) 3 aQ).map λ a=>Sen.told t a (M.fu (M.gj (nb ss) t aQ a)==1))++((M.dW (nb ss) 4 aQ).map λ p=>Sen.value p t (M.fu (M.hG (nb ss) t aQ p))):=by unfold M.jk;rw[e];simp
  rw[zc];exact zg
 ·refine bZ (λ _=>?_) (λ B=>absurd (by simp;omega) B);refine⟨_,z,.inl ⟨z,_,aG.of ij⟩,_,z,_,z,a,z,⟨ss,aM.same zg.base⟩,_,z,a,ss,_,bD,z,aM.same zg.base,bz,λ b Y=>⟨b,bD,z,Y,11,st t,st (aD bD),1,z,λ _ ahM _ gY _ ahN=>?_⟩⟩;refine⟨av,_,_,z,z,gY _ _ ij,?_,?_⟩
  ·rw[be,oF,cX,cX,be,be];exact em (by simp;omega)
  ·refine⟨_,z,k av _ ?_⟩;have zc:M.jk (nb ss) t aQ=[Sen.isA t aQ]++((M.dW (nb ss) 3 aQ).map λ a=>Sen.told t a (M.fu (M.gj (nb ss) t aQ a)==1))++((M.dW (nb ss) 4 aQ).map λ p=>Sen.value p t (M.fu (M.hG (nb ss) t aQ p)))++[Sen.inside t (aD bD)]:=by unfold M.jk;rw[ap];simp
   rw[zc];exact(zg.same gY).push (gY _ _ ij) (s9.same gY) (dx:=ahM) (s:=Sen.inside t (aD bD)) ahN
def ahO:(λ f:Nat=>([1,2]:List Nat).contains f)=λ f=>f==1||f==2:=by funext f;rw[eW];simp
def UN:(λ f:Nat=>([5]:List Nat).contains f)=λ f=>f==5:=by funext f;rw[eW];simp
theorem s' {bO fH:Type}(g:bO->List fH)(m:Nat):∀l:List bO,(∀x∈l,(g x).length<=m)->(l.flatMap g).length<=l.length * m
 |[],_=>by simp
 |x::r,h=>by rw[my,cX,cJ,tH];have:=s' g m r λ y aC=>h y (cu _ aC);have:=h x cn;omega
def UO (h:n<=4100000):n<=sizeLine:=cK h ⇑0
def Md:⇑7 6 T.qR (ahw T):=by
 refine bX T.qR.F yi λ _ _ _ E h=>?_;obtain⟨l,ss,rfl,cq,bR,aB,k⟩:=h;refine⟨z,λ _ _ _ _ ab _ _=>?_⟩;intro X;refine⟨_,(aJ (bQ 1 yi.nd (mf T.hk T.j5 T.j6 (mg T) ab (U (O 0) ai))) (aJ (bQ 2 yi.nd (b_ ai)) (aJ (gs f1 z (eN (bf T.qM T.ym (LF T) ab (U (O 1) (U (gT (U (b5 T.sR) (U (b5 T.ot) ai))) ai)))) (ib 3 yi.nd) (aN (eY (fX qY (O 2) (U (bf T.vi T.Jm (ahC T) ab (U (O 1) (U (O 3) ai))) ai))))) (aJ (gs f1 z (eN (bf T.qM T.ym (LF T) ab (U (O 1) (U (gT (U (b5 T.mb) ai)) ai)))) (ib 4 yi.nd) (aN (eY (fX qY (O 2) (U (bf T.vj T.Jn (ahE T) ab (U (O 1) (U (O 4) ai))) ai))))) (aN (a6 (O 2))))))),?_⟩;refine⟨_,z,l,ss,z,cq,⇑1,λ gv H1 al _ aM=>⟨cQ _,λ sh ji=>?_⟩⟩;have S2:ee T.da H1 (upd H1 sh (.lst [])) sh []:=ee.new ji;generalize upd H1 sh (.lst [])=aE at S2;refine⟨_,z,hv,λ tp iI=>?_⟩;have aO:aH aE (upd aE tp (.tup [.int 1,.int 2])):=bp iI;refine⟨gv,tp,ss,[1,2],z,aM.same (S2.base.trans aO),bR,dh.of aI,λ bk _ bh zf fZ=>?_⟩;rw[ahO] at fZ;have j8:=(S2.same aO).same bh;have ahP:bk≠sh:=λ B=>by subst B;obtain⟨as,h,_⟩:=(S2.same aO).ex;rw[h] at zf;cases zf
 have ca:=Db ss λ f=>f==1||f==2;have jN:=Db ss λ f=>f==5;have Me:=λ k=>ahz ss k;have UP:=λ t k=>ahA ss t k;refine⟨bk,z,⟨_,aG.of fZ⟩,ha (K:=K) (a:=bk) (xs:=bM (M.d4 (nb ss) λ f=>f==1||f==2)) (λ i L J=>XL (λ hP=>L=[some (.ref l),some (.ref gv),some (.ref sh),hP,none]) (J bk=some (.lst (bM (M.d4 (nb ss) λ f=>f==1||f==2)))) (ee T.da H1 J sh (((M.d4 (nb ss) λ f=>f==1||f==2).take i).flatMap (M.iB (nb ss)))))
  ⟨none,z,fZ,by rw[wN];exact j8⟩ (λ i L J _ ⟨_,_,q,_⟩=>aG.of q) ?_ ?_⟩
 ·rintro i y L J aj ⟨hP,rfl,ahQ,S⟩;intro A;obtain⟨n,tQ,rfl⟩:=jt aj;obtain⟨as,D,G,an⟩:=S.len;refine⟨_,z,.inl ⟨z,_,aG.of D⟩,_,z,_,z,gv,ss,n,z,aM.same S.base,bR,aB,λ r b1 R=>?_⟩;obtain⟨bs,a',a5,bn⟩:=R.len;refine⟨sh,r,_,_,z,z,R.base _ _ D,a',?_,?_⟩
  ·rw[be,be,G,a5];have:=s' (M.iB (nb ss)) 2001 ((M.d4 (nb ss) λ f=>f==1||f==2).take i) (λ x _=>by have:=Me x;omega);rw[c5] at this;have:min i (M.d4 (nb ss) λ f=>f==1||f==2).length * 2001<=1000 * 2001:=rl _ ⇑1;have:=Me n;exact UO ⇑1
  ·have E:=(S.same R.base).extend (R.base _ _ D) (an.same R.base) bn;refine⟨_,z,bw (R.base _ _ ahQ) ahP,?_⟩;rw[eH tQ,tr];simpa using E
 rintro L eO ⟨hP,rfl,_,nc⟩;rw[fj,fy] at nc;refine⟨_,z,dY,λ UQ ahR=>?_⟩;have cm:aH eO (upd eO UQ (.tup [.int 5])):=bp ahR;refine⟨gv,UQ,ss,[5],z,aM.same (nc.base.trans cm),bR,dh.of aI,λ De _ ei UR Mf=>?_⟩;rw[UN] at Mf;have ahS:=(nc.same cm).same ei;have ahT:De≠sh:=λ B=>by subst B;obtain⟨as,h,_⟩:=(nc.same cm).ex;rw[h] at UR;cases UR
 have e':=s' (M.iB (nb ss)) 2001 (M.d4 (nb ss) λ f=>f==1||f==2) (λ x _=>by have:=Me x;omega);refine⟨De,z,⟨_,aG.of Mf⟩,ha (K:=K) (a:=De) (xs:=bM (M.d4 (nb ss) λ f=>f==5)) (λ i L J=>XL (λ dE=>L=[some (.ref l),some (.ref gv),some (.ref sh),hP,dE]) (J De=some (.lst (bM (M.d4 (nb ss) λ f=>f==5)))) (ee T.da H1 J sh ((M.d4 (nb ss) λ f=>f==1||f==2).flatMap (M.iB (nb ss))++((M.d4 (nb ss) λ f=>f==5).take i).flatMap λ t=>M.jk (nb ss) t (M.cV (nb ss) t))))
  ⟨none,z,Mf,by rw[wN,Oi,hr];exact ahS⟩ (λ i L J _ ⟨_,_,q,_⟩=>aG.of q) ?_ ?_⟩
 ·rintro i y L J aj ⟨dE,rfl,US,S⟩;intro A;obtain⟨n,tQ,rfl⟩:=jt aj;obtain⟨as,D,G,an⟩:=S.len;have ax:M.d3 (nb ss) n=true:=by have hm:=gc tQ;unfold M.d4 M.l3 at hm;obtain⟨x,aa,ex⟩:=cd.mp (M.k7.mp hm);obtain⟨q1,bb⟩:=dX.mp aa;unfold M.d3;rw[M.uB,hS];exact⟨x,q1,M.fK.mpr ⟨↥bb,ex⟩⟩
  refine⟨_,z,.inl ⟨z,_,aG.of D⟩,_,z,_,z,gv,ss,n,z,aM.same S.base,bR,aB,ax,λ r b1 R=>?_⟩;obtain⟨bs,a',a5,bn⟩:=R.len;refine⟨sh,r,_,_,z,z,R.base _ _ D,a',?_,?_⟩
  ·rw[be,be,G,a5,cX];have:=s' (λ t=>M.jk (nb ss) t (M.cV (nb ss) t)) 2002 ((M.d4 (nb ss) λ f=>f==5).take i) (λ x _=>by have:=UP x (M.cV (nb ss) x);omega);rw[c5] at this;have:min i (M.d4 (nb ss) λ f=>f==5).length * 2002<=1000 * 2002:=rl _ ⇑1;have:=UP n (M.cV (nb ss) n);exact UO ⇑1
  ·have E:=(S.same R.base).extend (R.base _ _ D) (an.same R.base) bn;refine⟨_,z,bw (R.base _ _ US) ahT,?_⟩;rw[eH tQ,tr,<-iL];simpa using E
 ·rintro L J ⟨dE,rfl,US,S⟩;rw[fj,fy] at S;exact⟨_,z,k sh J (S.less al)⟩
def Mg (b):fS.bl (st b)=b:=rfl
def f7 (b):(st b).length=b.length:=by rw[fS.r6,Mg]
def Mh (l:List Bytes):(l.map st).map fS.bl=l:=by rw[ht];exact(mu λ _ _=>rfl).trans (wT l)
def UT (i):(toString i:Str)=st (dec i):=fS.xJ (fS.ZB _)
def UU (c d)(r):fS.pre [c] (d::r)=(d==c):=by show([d]==[c])=(d==c);rw[eW];simp
theorem Mi (c:Nat):∀(b aY:Bytes),fS.gw [c] 0 aY b=(aY++(split c b).headD [])::(split c b).tail
 |[],aY=>by rw[fS.AL];show[aY]=(aY++[])::[];rw[hr]
 |d::r,aY=>by
  by_cases h:d=c
  ·subst h;rw[fS.Qe (by rw[UU];simp)];show aY::fS.gw [d] 0 [] r=_;rw[Mi,M.qw];show aY::([]++(split d r).headD [])::(split d r).tail=(aY++[])::split d r;rw[hr,wI];have:=M.k6 d r;cases e:split d r with
   |nil=>exact absurd e this
   |cons x y=>rfl
  ·rw[fS.Qg (by rw[UU];simpa using h),Mi];have:=M.k6 c r;cases e:split c r with
   |nil=>exact absurd e this
   |cons x y=>rw[M.pi h e];rw[iL];rfl
def Mj (b):Txt.split (st b) " "=(split 32 b).map st:=by
 refine fS.Qd ?_;rw[fS.ZI _ _ ⇑0 (fS.ZJ (by decide+kernel)),Mh];show fS.gw [32] 0 [] b=_;rw[Mi,wI];have:=M.k6 32 b;cases e:split 32 b with
 |nil=>exact absurd e this
 |cons x y=>rfl
theorem UV:∀l:List Bytes,fS.r7 [32] l=spaced l
 |[]=>rfl
 |[x]=>rfl
 |x::y::r=>by show x++([32]++fS.r7 [32] (y::r))=x++32::spaced (y::r);rw[UV];rfl
theorem UW:∀l:List Bytes,fS.r7 [] l=l.flatten
 |[]=>rfl
 |[x]=>by show x=[x].flatten;simp
 |x::y::r=>by show x++([]++fS.r7 [] (y::r))=_;rw[UW];simp
def ahU (l):Txt.join " " (l.map st)=st (spaced l):=by refine fS.xJ ?_;rw[fS.join_eq,fS.FA,Mh,Mg];exact UV l
def ahV (l:List Bytes):Txt.join "" (l.map st)=st l.flatten:=by refine fS.xJ ?_;rw[fS.join_eq,fS.FA,Mh,Mg];exact UW l
def ahW (a b):st a++st b=st (a++b):=fS.xJ (by rw[fS.Fy];rfl)
def UX (w):Txt.startswith (st w) "-"=isNeg w:=by
 unfold Txt.startswith isNeg;rw[NI];show(decide (0+1<=(st w).length)&&((w.drop 0).take 1==[45]))=(w.head? ==some 45);rw[f7];cases w with
 |nil=>rfl
 |cons c r=>simp
def ahX (b):Txt.endswith (st b) "."=(b.getLast? ==some 46):=by
 unfold Txt.endswith;rw[NI];show(decide (0+1<=(st b).length)&&((b.drop ((st b).length - 1)).take 1==[46]))=_;rw[f7];rcases ri b with rfl|⟨r,c,rfl⟩
 ·rfl
 ·simp
def ahY (w):lR (st w) (some 1) none=st (w.drop 1):=by
 have e:c8.dn (st w).length 0 (some 1)=min 1 w.length:=by rw[f7];exact c8.ER _ _ 1
 unfold lR;rw[e,c8.XR,f7];show(⟨((w.drop (min 1 w.length)).take (w.length - min 1 w.length)).toArray⟩:Str)=⟨(w.drop 1).toArray⟩;congr 2;cases w with
 |nil=>rfl
 |cons c r=>simp
def UY (b):lR (st b) none (some (-1))=st b.dropLast:=by
 have e:c8.dn (st b).length (st b).length (some (-1))=b.length - 1:=by rw[f7];show(if (-1:Int)<0 then((-1:Int)+(b.length:Int)).toNat else min (-1:Int).toNat b.length)=b.length - 1;rw[aA ⇑0];omega
 unfold lR;rw[e];show(⟨((b.drop 0).take (b.length - 1 - 0)).toArray⟩:Str)=⟨(b.dropLast).toArray⟩;rw[wM,NN];rfl
def UZ (h:c<128):Unicode.isDigit c=isDigit c:=by
 rw[PyProof.Rows.cls_isdigit c h];have:∀c,c<128->PyProof.Rows.inR 48 57 ⟨#[c]⟩=isDigit c:=by decide+kernel
 exact this c h
def ahZ (h:∀c∈w,c<128):Txt.isdigit (st w)=(!w.isEmpty&&w.all isDigit):=by
 unfold Txt.isdigit;rw[f7];show(decide (w.length>0)&&w.toArray.all Unicode.isDigit)=_;rw[List.all_toArray];have e:w.all Unicode.isDigit=w.all isDigit:=by rw[eW,hq,hq];exact⟨λ q c ak=>by rw[<-UZ (h c ak)];exact q c ak,λ q c ak=>by rw[UZ (h c ak)];exact q c ak⟩
 rw[e];cases w<;>simp
def U0 (d):NumText.digitsVal d=M.fh d:=by unfold NumText.digitsVal M.fh;congr 1;funext n c;rw[Eb]
def int_text (h:iA w=true):PySem.intText? (st w)=some (intOf w):=by
 unfold iA at h;simp only[dF,oP,fG] at h;obtain⟨D,G,an⟩:=h;have hd:NumText.AllDigits (cW w):=λ c ak=>by have:=hq.mp G c ak;simpa[isDigit] using this
 have ek:cW w≠[]:=λ e=>by rw[e] at D;cases D
 unfold intOf;by_cases q:isNeg w=true
 ·rw[aA q];have e:w=45::cW w:=by
   unfold cW;rw[aA q];unfold isNeg at q;cases w with
   |nil=>cases q
   |cons c r=>
    have:c=45:=by simpa using q
    subst this;rfl
  have ah:(st w).length<=4300:=by rw[f7,e,cJ];omega
  rw[PySem.intText_neg (x:=st w) (cs:=cW w) e hd ek ah,U0]
 ·rw[ay q];have e:cW w=w:=by unfold cW;rw[ay q]
  rw[e] at hd ek an⊢;rw[PySem.intText_digits (x:=st w) hd ek (by rw[f7];omega)];show some ((NumText.digitsVal w:Nat):Int)=_;rw[U0]
section
def Mk {g:jE}{fc:TT}{cc:TE}{mT:aP->Prop}(Pv:Nat->aP->Prop)(aX:Pv 0 (upd H1 af (.lst [])))
  (au:∀i c H,x.cps.toList[i]?=some c->Pv i H->g (.str ⟨#[c]⟩) (wipe L vs) H λ c' aE=>wipe c' vs=wipe L vs/\fc c' aE λ b bj=>if b=true then cc c' bj λ y b1=>∃aY,b1 af=some (.lst aY)/\aY.length<sizeLine/\Pv (i+1) (upd b1 af (.lst (aY++[y]))) else Pv (i+1) bj) (hd:∀H,Pv x.cps.toList.length H->mT H):
  ∃W:Nat->Nat->aP->Prop,(∃m,W 0 m (upd H1 af (.lst [])))/\∀i m H,W i m H->
   ((xE x).stop i H/\mT H)\/((xE x).go i H/\∃hg:aP->Prop,(∀J,hg J->∃cP,cP<m/\W (i+1) cP J)/\∀v J,(xE x).nP i H v J->g v (wipe L vs) J λ c' aE=>wipe c' vs=wipe L vs/\fc c' aE λ b bj=>if b=true then cc c' bj λ y b1=>∃aY,b1 af=some (.lst aY)/\aY.length<sizeLine/\hg (upd b1 af (.lst (aY++[y]))) else hg bj):=by
 have hz:x.cps.toList.length=x.cps.size:=nC;refine⟨λ i m H=>m=x.cps.size - i/\i<=x.cps.size/\Pv i H,⟨x.cps.size,z,cQ _,aX⟩,?_⟩;rintro i m H ⟨rfl,_,p⟩;by_cases c6:i<x.cps.size
 ·refine .inr ⟨c6,Pv (i+1),λ J fN=>⟨_,⇑1,z,c6,fN⟩,λ v J y=>?_⟩;obtain⟨e,c,mW,rfl⟩:=y;subst e;exact au i c _ (by rw[tn];exact mW) p
 ·have e:i=x.cps.toList.length:=by omega
  refine .inl ⟨by show x.cps.size<=i;omega,hd H (by rw[<-e];exact p)⟩
def ah0 {K:Frag}{g:jE}{dd:g6}{af:Ends}(Pv:Nat->ef.St->aP->Prop)(aX:Pv 0 L H)(aB:xs.length=ys.length)(ah:∀i L H,i<=xs.length->Pv i L H->aG K H a xs/\aG K H b ys)
  (au:∀i x y T L H,xs[i]?=some x->ys[i]?=some y->Pv i L H->H T=none->g (.ref T) L (upd H T (.tup [x,y])) λ c' aE=>dd {af with a7:=Pv (i+1),es:=Pv (i+1),jD:=af.a7} c' aE) (hd:∀L H,Pv xs.length L H->af.a7 L H):
  ∃W:Nat->Nat->ef.St->aP->Prop,(∃m,W 0 m L H)/\∀i m L H,W i m L H->
   ((xF K a b).stop i H/\af.a7 L H)\/((xF K a b).go i H/\∃N:ef.St->aP->Prop,(∀cf J,N cf J->∃cP,cP<m/\W (i+1) cP cf J)/\∀x J,(xF K a b).nP i H x J->g x L J λ c' aE=>dd {af with a7:=N,es:=N,jD:=af.a7} c' aE):=by
 refine⟨λ i m L H=>m=xs.length - i/\i<=xs.length/\Pv i L H,⟨xs.length,z,cQ _,aX⟩,?_⟩;rintro i m L H ⟨rfl,aj,p⟩;obtain⟨q1,bb⟩:=ah i L H aj p;by_cases c6:i<xs.length
 ·have ah1:i<ys.length:=by omega
  refine .inr ⟨⟨xs,ys,xs[i],ys[i],q1,bb,ez c6,ez ah1⟩,Pv (i+1),λ cf J fN=>⟨_,⇑1,z,c6,fN⟩,λ _ J y=>?_⟩;obtain⟨T,x,y,rfl,aM,rfl,ap,ao⟩:=y;exact au i x y T L _ (ap xs q1) (ao ys bb) p aM
 ·have e:i=xs.length:=by omega
  subst e;exact .inl ⟨⟨xs,ys,q1,bb,.inl (bG _)⟩,hd L H p⟩
end
def ju:Bytes:=ascii " -.0123456789abcdefghijklmnopqrstuvwxyz"
def U1 (c):c∈ju↔M.sign c=true:=by
 by_cases h:c<128
 ·have:∀c,c<128->(c∈ju↔M.sign c=true):=by decide+kernel
  exact this c h
 ·constructor
  ·intro q;have:∀d∈ju,d<128:=by decide+kernel
   exact absurd (this c q) h
  ·intro q;simp[M.sign] at q;omega
theorem U2 (g:Nat->V):∀(l:Bytes)(aw:List (Key×V))(c:Nat),b4 (h0 aw (l.map λ(c:Nat)=>((.inl (c:Int):Key),g c))) (.inl (c:Int))=if c∈l then some (g c) else b4 aw (.inl (c:Int))
 |[],aw,c=>rfl
 |d::r,aw,c=>by
  show b4 (h0 (putK aw (.inl (d:Int)) (g d)) (r.map _)) _=_;rw[U2 g r];by_cases h:c∈r;·rw[aA h,aA (cu _ h)]
  ·rw[ay h];by_cases e:c=d
   ·subst e;rw[aA cn,ug];simp
   ·rw[ay (by simp[e,h]),ug,ay];intro B;injection B with B;exact e ⇑1
inductive ah2(T:e3 K am)(vs:List V)(H:aP)(Q:d7)(E:mD):Prop|mk a b:vs=[.ref a]->H a=some (.lst (br b))->b.length<=4096->(∀J,aH H J->Q (.str (st (bd b))) J)->ah2 T vs H Q E
def nt:⇑7 1 T.jp (ah2 T):=by
 refine bX T.jp.F uW λ H _ _ E h=>?_;obtain⟨a,b,rfl,Y,_,k⟩:=h;refine⟨z,λ _ _ _ _ _ a1 _=>?_⟩;intro X;refine⟨_,(aJ (tW (i:=1) uW.nd z (Or.inr z) (o7 (Zj z) z T.K' boot_dict (U (jg z uW.nd (Ft (Tz T.J3)) (hB (own:=[("sign",2)]) z) (λ _ _ _ _ _=>(gF (i:=2) uW.nd z (Or.inl z) (Or.inr z))) (λ _ _ _ _ _=>k0) (λ _ _ _ _ _=>(gT (U (dJ O7 z T.CF boot_ord (U (O 2) ai)) (U (O 2) ai))))) ai))) (aN (a6 (Qr g8 (jg z uW.nd (eN (O 0)) (hB (own:=[("byte",3)]) z) (λ _ _ _ _ _=>(gF (i:=3) uW.nd z (Or.inl z) (Or.inr z))) (λ _ _ _ _ _=>k0) (λ _ _ _ _ _=>(qo a1 (O 1) (O 3) g8 ⟨z,z,z,z⟩))))))),?_⟩;refine⟨_,z,λ af cr=>?_⟩;refine Mk (x:=(" -.0123456789abcdefghijklmnopqrstuvwxyz":Str)) (λ i J=>aH H J/\∃ps:List Addr,J af=some (.lst (ps.map V.ref))/\ps.length=i/\∀(j:Nat)(p c:Nat),ps[j]?=some p->ju[j]?=some c->J p=some (.tup [.int (c:Int),.str ⟨#[c]⟩])) ⟨bp cr,[],aI,z,λ j p c h=>by simp at h⟩ ?_ ?_
 ·rintro i c J aj ⟨al,ps,a',a5,bn⟩;have hsz:i<4097:=by
   have:i<ju.length:=(c_.mp aj).1;have:ju.length=39:=by decide+kernel
   omega
  refine⟨z,lk ⟨_,z,_,z,z,_,z,hv,λ p ar=>⟨_,bw a' (cy a' ar),?_,?_⟩⟩⟩;·rw[be,a5];exact em ⇑1
  have he:=cy a' ar;refine⟨ev (ev al (al.free ar)) cr,ps++[p],?_,by simp[a5],λ j q d D G=>?_⟩;·rw[aI,db];rfl
  ·have ak:ju[i]?=some c:=aj;by_cases a0:j<ps.length
   ·rw[jx a0] at D;have e:=bn j q d D G;exact bw (bw e (cy e ar)) (cw e a' ⇑3)
   ·have qE:j=i:=by have:=(c_.mp D).1;simp at this;omega
    subst qE;rw[<-a5,rg] at D;cases D;rw[ak] at G;cases G;exact bw aI (λ B=>he B.symm)
 rintro H1 ⟨al,ps,a',a5,bn⟩;have ah3:(" -.0123456789abcdefghijklmnopqrstuvwxyz":Str).cps.toList=ju:=rfl;rw[ah3] at a5;refine⟨af,ps,ju.map λ(c:Nat)=>((.inl (c:Int):Key),V.str ⟨#[c]⟩),z,aG.of a',?_,λ d hd=>?_⟩
 ·have:∀(ps:List Addr)(l:Bytes),ps.length=l.length->(∀(j:Nat)(p c:Nat),ps[j]?=some p->l[j]?=some c->H1 p=some (.tup [.int (c:Int),.str ⟨#[c]⟩]))->Paired (λ p (ct:Key×V)=>dh K H1 p [c0 ct.1,ct.2]) ps (l.map λ(c:Nat)=>((.inl (c:Int):Key),V.str ⟨#[c]⟩)):=by
   intro ps;induction ps with
   |nil=>intro l h _;cases l with
    |nil=>exact .nil
    |cons x r=>cases h
   |cons p r ih=>intro l h q;cases l with
    |nil=>cases h
    |cons x l=>exact .cons (dh.of (q 0 p x z z)) (ih l ↥h λ j fN c D G=>q (j+1) fN c D G)
  exact this ps ju a5 bn
 have aq:aH H (upd H1 d (.cT (h0 [] (ju.map λ(c:Nat)=>((.inl (c:Int):Key),V.str ⟨#[c]⟩))))):=ev al (al.free hd);have ew:(upd H1 d (.cT (h0 [] (ju.map λ(c:Nat)=>((.inl (c:Int):Key),V.str ⟨#[c]⟩))))) d=some (.cT (h0 [] (ju.map λ(c:Nat)=>((.inl (c:Int):Key),V.str ⟨#[c]⟩)))):=aI;generalize upd H1 d (.cT (h0 [] (ju.map λ(c:Nat)=>((.inl (c:Int):Key),V.str ⟨#[c]⟩))))=aE at aq ew;refine⟨⟨_,z⟩,_,z,a,z,⟨_,aG.of (aq _ _ Y)⟩,λ E zh=>?_⟩;refine km (K:=K) (a:=a) (xs:=br b) (fY aE E λ i=>bM ((b.take i).map λ c=>[f2 c])) (.start zh z) (λ i J _ h=>aG.of (aq.trans h.1 _ _ Y)) ?_ ?_
 ·rintro i x J aj h;obtain⟨c,ak,rfl⟩:=s3 aj;refine⟨z,lk ⟨_,z,d,z,.inl ⟨_,.inl (h.1 _ _ ew)⟩,_,z,_,dV.k (k:=.inl (c:Int)) (h.1 _ _ ew),?_⟩⟩;have e:((b4 (h0 [] (ju.map λ(c:Nat)=>((.inl (c:Int):Key),V.str ⟨#[c]⟩))) (.inl (c:Int))).getD (.str "?"))=.str (st [f2 c]):=by
   rw[U2 (λ c=>V.str ⟨#[c]⟩) ju [] c,Fc];unfold f2;by_cases q:M.sign c=true;·rw[aA ((U1 c).mpr q),aA q];rfl
   ·rw[ay (λ B=>q ((U1 c).mp B)),ay q];rfl
  rw[e];refine h.step zh (aH.refl _) ?_ ?_
  ·show bM ((b.take (i+1)).map λ c=>[f2 c])=_;rw[eH ak,db,pE];rfl
  ·rw[fj,be,c5];exact em ⇑1
 ·rintro J ⟨D,G⟩;rw[du] at G;dsimp only at G;rw[fy,s6] at G;refine⟨_,E,_,z,z,.inl (aG.of G),?_,?_⟩
  ·show _+_ * 0<=_;have:∀l:Bytes,(((l.map λ c=>[f2 c]).map st).map (·.length)).sum=l.length:=by
    intro l;induction l with
    |nil=>rfl
    |cons x r ih=>rw[bU,bU,bU,oT,ih,f7];simp;omega
   rw[this];omega
  ·rw[ahV];have:∀l:Bytes,(l.map λ c=>[f2 c]).flatten=bd l:=by
    intro l;induction l with
    |nil=>rfl
    |cons x r ih=>rw[bU,List.flatten_cons,ih];rfl
   rw[this];exact k _ (aq.trans D)
inductive ah4(T:e3 K am)(vs:List V)(H:aP)(Q:d7)(E:mD):Prop|mk b:vs=[.str (st b)]->b.length<=4096->(∀r J,aH H J->H r=none->J r=some (.lst (br b))->Q (.ref r) J)->ah4 T vs H Q E
def Ml:⇑7 1 T.qO (ah4 T):=by
 refine bX T.qO.F HH λ H _ _ _ h=>?_;obtain⟨b,rfl,_,k⟩:=h;refine⟨z,λ _ _ _ _ _ _ _=>?_⟩;intro X;refine⟨_,(aN (a6 (jg z HH.nd (Ft (O 0)) (hB (own:=[("sign",1)]) z) (λ _ _ _ _ _=>(gF (i:=1) HH.nd z (Or.inl z) (Or.inr z))) (λ _ _ _ _ _=>k0) (λ _ _ _ _ _=>(dJ O7 z T.CF boot_ord (U (O 1) ai)))))),?_⟩;refine⟨_,z,_,z,λ af cr=>?_⟩;refine Mk (x:=st b) (fY H af λ i=>br (b.take i)) (.start cr z) ?_ ?_
 ·rintro i c J aj h;have aj:b[i]?=some c:=aj;refine⟨z,lk ⟨_,z,_,z,z,h.step cr (aH.refl _) ?_ ?_⟩⟩
  ·show br (b.take (i+1))=_;rw[eH aj,iH];rfl
  ·rw[du,c5];exact em ⇑1
 ·rintro J ⟨D,G⟩;have e:(st b).cps.toList=b:=rfl;rw[e] at G;dsimp only at G;rw[fy] at G;exact k af J D cr G
inductive ah5(T:e3 K am)(vs:List V)(H:aP)(Q:d7)(E:mD):Prop|mk w:vs=[.str (st w)]->w.length<=4096->(∀J,aH H J->Q (.bg (isName w)) J)->ah5 T vs H Q E
def Mm:([.str "is",.str "a",.str "kind",.str "of",.str "can",.str "be",.str "has",.str "number",.str "every",.str "usually",.str "not",.str "the",.str "in"]:List V)=bM RESERVED:=rfl
def ah6 (c):decide (c∈("abcdefghijklmnopqrstuvwxyz":Str).cps.toList)=(decide (97<=c)&&decide (c<=122)):=by
 have e:("abcdefghijklmnopqrstuvwxyz":Str).cps.toList=ascii "abcdefghijklmnopqrstuvwxyz":=rfl;rw[e];by_cases h:c<128
 ·have:∀c,c<128->decide (c∈ascii "abcdefghijklmnopqrstuvwxyz")=(decide (97<=c)&&decide (c<=122)):=by decide+kernel
  exact this c h
 ·have D:¬c∈ascii "abcdefghijklmnopqrstuvwxyz":=λ q=>by
   have:∀d∈ascii "abcdefghijklmnopqrstuvwxyz",d<128:=by decide+kernel
   exact h (this c q)
  simp[D];omega
def ah7:⇑7 1 T.u7 (ah5 T):=by
 refine bX T.u7.F HJ λ H _ _ _ h=>?_;obtain⟨w',rfl,_,k⟩:=h;refine⟨z,λ _ _ _ _ _ _ _=>?_⟩;intro X;refine⟨_,(aJ (cb (s1 (z9 (b9 nR (dJ xo z T.eu eK (U (O 0) ai)) bc (b7 _)) (z9 (b9 fO (dJ xo z T.eu eK (U (O 0) ai)) (b5 T.yG) (b7 _)) (Es (b9 mP (O 0) (li T.Cs) z))))) (aN (a6 w9)) cj) (aN (a6 (dJ (Ap z) z T.vW boot_all (U (jg z HJ.nd (Ft (O 0)) (hB (own:=[("sign",1)]) z) (λ _ _ _ _ _=>(gF (i:=1) HJ.nd z (Or.inl z) (Or.inr z))) (λ _ _ _ _ _=>k0) (λ _ _ _ _ _=>(hX ZR (O 1) (Tz T.J4) z))) ai))))),?_⟩;have hz:(st w').length<=sizeLine:=by rw[f7];exact gP ⇑1
 refine⟨_,z,_,z,hz,_,_,z,z,_,z,bZ (λ D=>df ?_) (λ D=>⟨_,z,_,z,hz,_,_,z,z,_,z,bZ (λ G=>df ?_) (λ G=>⟨_,z,T.J5,_,z,.inr T.J6.i1,z,by rw[Mm];exact TX _,_,z,bZ (λ an=>?_) (λ an=>?_)⟩)⟩)⟩
 ·rw[f7] at D;have D:=ge D;have:¬ 1<=w'.length:=by omega
  have e:isName w'=false:=by unfold isName;rw[eA this];rfl
  rw[<-e];exact k _ (aH.refl _)
 ·rw[f7] at G;have:¬w'.length<=12:=by simp at G;omega
  have e:isName w'=false:=by unfold isName;rw[eA this];simp
  rw[<-e];exact k _ (aH.refl _)
 ·have an:eb (.str (st w')) (bM RESERVED)=true:=by rw[<-Mm];exact an
  rw[Lz] at an;have e:isName w'=false:=by unfold isName;rw[an];simp
  rw[<-e];exact k _ (aH.refl _)
 have an:¬eb (.str (st w')) (bM RESERVED)=true:=by rw[<-Mm];exact an
 rw[Lz] at an;rw[f7] at D G;refine⟨_,z,_,z,λ af cr=>?_⟩;refine Mk (x:=st w') (fY H af λ i=>((w'.take i).map λ c=>decide (97<=c)&&decide (c<=122)).map V.bg) (.start cr z) ?_ ?_
 ·rintro i c J aj h;have aj:w'[i]?=some c:=aj;refine⟨z,lk ⟨_,z,c,_,z,z,?_⟩⟩;rw[ah6];refine h.step cr (aH.refl _) ?_ ?_
  ·show((w'.take (i+1)).map λ c=>decide (97<=c)&&decide (c<=122)).map V.bg=_;rw[eH aj,db,db];rfl
  ·rw[be,be,c5];exact em ⇑1
 ·rintro J ⟨aU,bY⟩;have e:(st w').cps.toList=w':=rfl;rw[e] at bY;dsimp only at bY;rw[fy] at bY;refine⟨af,_,z,aG.of bY,?_⟩;have e:isName w'=(w'.map λ c=>decide (97<=c)&&decide (c<=122)).all id:=by
   unfold isName;have an:RESERVED.contains w'=false:=by simpa using an
   have kp:decide (1<=w'.length)=true:=by simp at D;exact dO ⇑1
   have mZ:decide (w'.length<=12)=true:=by simp at G;exact dO ⇑1
   rw[an,kp,mZ,ru];simp
  rw[<-e];exact k _ aU
def ah8 (d):d.all isDigit=true->M.fh d<10 ^ d.length:=by refine M.RN (P:=λ d=>d.all isDigit=true->M.fh d<10 ^ d.length) (λ _=>by decide) (λ _ c ih h=>?_) d;rw[D1,dF] at h;have D:=ih h.1;have G:48<=c/\c<=57:=M.Bh.mp ↥h.2;rw[M.RK,cX,kQ,Nat.pow_succ];omega
def ah9 {w:Bytes}(h:iA w=true):(intOf w).natAbs.log2<1920:=by
 unfold iA at h;simp only[dF,oP,fG] at h;obtain⟨_,G,an⟩:=h;have aU:=ah8 (cW w) G;have bY:10 ^ (cW w).length<=10 ^ 10:=Nat.pow_le_pow_right ⇑0 an;have gX:(intOf w).natAbs=M.fh (cW w):=by unfold intOf;split<;>omega
 rw[gX];have m0:M.fh (cW w)<2 ^ 40:=hp aU (cK bY ⇑0);by_cases aX:M.fh (cW w)=0;·rw[aX];decide
 ·have:=(Nat.log2_lt aX).mpr m0;omega
inductive aia(T:e3 K am)(vs:List V)(H:aP)(Q:d7)(E:mD):Prop|mk w:vs=[.str (st w)]->w.length<=4096->(∀c∈w,c<128)->(∀J,aH H J->Q (.bg (number w).isSome) J)->aia T vs H Q E
def aib {w:Bytes}:∀c∈cW w,c∈w:=by
 intro c h;unfold cW at h;split at h;·exact List.mem_of_mem_drop h
 ·exact h
def aic (w):(cW w).length<=w.length:=by
 unfold cW;split;·rw[lx];omega
 ·exact bG _
def Mn:(toString (1000000000:Int):Str).length=10:=by decide+kernel
def U3 (h:¬iA w'=true):(number w').isSome=false:=by rw[M.Gd,ay λ B=>h B.1];rfl
def U4 (w'):iA w'=(decide ((cW w').length<=10)&&(!(cW w').isEmpty&&(cW w').all isDigit)):=by unfold iA;cases (cW w').isEmpty<;>cases (cW w').all isDigit<;>cases decide ((cW w').length<=10)<;>rfl
def aid:⇑7 1 T.u9 (aia T):=by
 refine bX T.u9.F S7 λ H _ Q _ h=>?_;obtain⟨w',rfl,_,ak,k⟩:=h;refine⟨z,λ _ _ _ _ _ _ _=>?_⟩;intro X;refine⟨_,(aJ (bQ 1 S7.nd (mE (gE (AM F.slot_str_startswith F.type_str_startswith ZO (O 0) g8)) (rX Qu (O 0) (qf bc) t6) (O 0))) (aJ (cb (s1 (z9 (b9 fO (dJ xo z T.eu eK (U (O 1) ai)) (dJ xo z T.eu eK (U (o7 EH z T.yL boot_str (U (b5 T.Ct) ai)) ai)) (b7 _)) (Es (iO (gE (ZQ F.slot_str_isdigit F.type_str_isdigit ZN (O 1))))))) (aN (a6 w9)) cj) (aN (a6 (rI (hX eG (o7 EH z T.yL boot_str (U (o7 FF z T.yJ boot_int (U (O 0) ai)) ai)) (O 0) (b7 _)) (nN (hX rO (dJ Xn z T.K9 boot_abs (U (o7 FF z T.yJ boot_int (U (O 0) ai)) ai)) (b5 T.Ct) (b7 _)))))))),?_⟩;have go:∀oE,oE=H->(Eu
   (ON
    (OI
     (EG
      (o3 (mL λ i j=>V.bg (decide (j<i)))
       (nU (λ xs H Q=>∃B:Str,xs=[V.str B]/\B.length<=sizeLine/\Q (V.int B.length) H)
        (jG (i_ 1) je))
       (nU (λ xs H Q=>∃B:Str,xs=[V.str B]/\B.length<=sizeLine/\Q (V.int B.length) H)
        (jG
         (nU
          (λ xs H Q=>∃i:Int,xs=[V.int i]/\i.natAbs.log2<1920/\Q (V.str (Str.ofString (toString i))) H)
          (jG (i' (V.int 1000000000)) je))
         je))))
     (OJ (Er (Qq (λ x xs H Q=>∃a,x=V.str a/\xs=[]/\True/\Q (V.bg (Txt.isdigit a)) H) (i_ 1)))))
    (xb (i' (V.bg false))) OM)
   (xb
    (OK
     (o3 OZ
      (nU (λ xs H Q=>∃i:Int,xs=[V.int i]/\i.natAbs.log2<1920/\Q (V.str (Str.ofString (toString i))) H)
       (jG
        (nU (λ xs H Q=>∃a n,xs=[V.str a]/\intText? a=some n/\a.length<=640/\Q (V.int n) H)
         (jG (i_ 0) je))
        je))
      (i_ 0))
     (o3 (mL λ i j=>V.bg (decide (i<=j)))
      (nU (λ xs H Q=>∃i,xs=[V.int i]/\Q (V.int (if i<0 then -i else i)) H)
       (jG
        (nU (λ xs H Q=>∃a n,xs=[V.str a]/\intText? a=some n/\a.length<=640/\Q (V.int n) H)
         (jG (i_ 0) je))
        je))
      (i' (V.int 1000000000))))))
  {a7:=λ x J=>Q V.b6 J,nM:=Q} [some (.str (st w')),some (.str (st (cW w')))] oE:=by
  rintro oE rfl;have hd:=aic w';have hz:(st (cW w')).length<=sizeLine:=by rw[f7];exact gP ⇑1
  refine⟨_,z,_,z,hz,_,z,(by decide+kernel),_,z,(by rw[Mn];decide),_,_,z,z,_,z,bZ (λ D=>df ?_) (λ D=>⟨_,z,⟨_,z⟩,_,z,z,True.intro,_,z,?_⟩)⟩
  ·have D:=ge D;rw[f7,Mn] at D;have e:=U3 (w':=w') (by rw[U4,eA ⇑1];simp);rw[<-e];exact k _ (aH.refl _)
  have D:¬_<_:=λ B=>D (dO B);rw[f7,Mn] at D;have U5:=U4 w';rw[ahZ λ c b3=>ak c (aib c b3)];rw[dO ⇑1,rs] at U5;rw[<-U5];cases q:iA w' with
  |false=>refine df ?_;rw[<-U3 (w':=w') (by rw[q];decide)];exact k _ (aH.refl _)
  |true=>
   refine c7 ?_;have ah:(st w').length<=640:=by
    rw[f7];have:w'.length<=(cW w').length+1:=by
     unfold cW;split;·rw[lx];omega
     ·omega
    omega
   refine⟨_,z,_,_,z,int_text q,ah,_,z,ah9 q,_,z,?_⟩;rw[UT];have nb:=M.Gd w';refine⟨z,_,z,bZ (λ G=>⟨_,z,_,_,z,int_text q,ah,_,z,_,_,z,z,?_⟩) (λ G=>?_)⟩
   ·have G:dec (intOf w')=w':=by have:=ge G;injection this with this;exact jr this
    have e:(number w').isSome=decide ((if intOf w'<0 then -intOf w' else intOf w')<=1000000000):=by
     rw[nb];by_cases an:(intOf w').natAbs<=1000000000
     ·rw[aA ⟨q,G,an⟩];refine(dO ?_).symm;split<;>omega
     ·rw[ay λ B=>an B.2.2];refine(eA ?_).symm;split<;>omega
    have:=k _ (aH.refl _);rw[e] at this;exact this
   ·have e:(number w').isSome=false:=by
     rw[nb,ay];·rfl
     ·intro B;exact G (dO (by rw[B.2.1]))
    rw[<-e];exact k _ (aH.refl _)
 have hz:(st w').length<=sizeLine:=by rw[f7];exact gP ⇑1
 refine⟨_,z,⟨_,z⟩,_,_,z,z,_,z,bZ (λ D=>⟨_,z,_,z,_,z,hz,?_⟩) (λ D=>⟨_,z,?_⟩)⟩
 ·rw[UX] at D;have e:cW w'=w'.drop 1:=by unfold cW;rw[aA D]
  rw[ahY,<-e];exact go _ z
 ·rw[UX] at D;have e:cW w'=w':=by unfold cW;rw[ay D]
  have:=go _ z;rw[e] at this;exact this
inductive aie(T:e3 K am)(vs:List V)(H:aP)(Q:d7)(E:mD):Prop|mk sl w:vs=[.str (st sl),.str (st w)]->w.length<=4096->(∀c∈w,c<128)->(∀J,aH H J->Q (.bg (M.l1 sl w)) J)->aie T vs H Q E
def pQ:decide (V.str (st a)=V.str (st b))=(a==b):=by rw[eW,fG,d_];exact⟨λ h=>by injection h with h;exact jr h,λ h=>by rw[h]⟩
def aif:⇑7 2 T.fits (aie T):=by
 refine bX T.fits.F aei λ H _ Q _ h=>?_;obtain⟨sl,w',rfl,hw,ak,k⟩:=h;refine⟨z,λ _ _ _ _ ab _ _=>?_⟩;intro X;refine⟨_,(aJ (cb (s1 (z9 (b9 eG (O 0) g8 (b7 _)) (Es (b9 eG (O 0) g8 (b7 _))))) (aN (a6 (bf T.u7 T.I9 (ah7 T) ab (U (O 1) ai)))) cj) (aJ (cb (b9 eG (O 0) g8 (b7 _)) (aN (a6 (bf T.u9 T.I_ (aid T) ab (U (O 1) ai)))) cj) (aN (a6 (hX eG (O 0) (O 1) (b7 _)))))),?_⟩;have Mo:("ABOUT":Str)=st M.kv:=rfl;have Mp:("OTHER":Str)=st M.jY:=rfl;have U6:("SAID":Str)=st M.kx:=rfl;have zZ:(sl=M.kv\/sl=M.jY)->∀J,aH H J->Q (.bg (isName w')) J:=λ h J al=>by have:=k J al;unfold M.l1 at this;rw[aA h] at this;exact this
 refine⟨_,z,z,_,z,bZ (λ D=>df ?_) (λ D=>⟨_,z,z,_,z,bZ (λ G=>?_) (λ G=>⟨_,z,z,_,z,bZ (λ an=>?_) (λ an=>?_)⟩)⟩)⟩
 ·rw[Mo,pQ,d_] at D;exact⟨_,z,w',z,hw,zZ (.inl D)⟩
 ·rw[Mp,pQ,d_] at G;exact⟨_,z,w',z,hw,zZ (.inr G)⟩
 ·rw[Mo,pQ,d_] at D;rw[Mp,pQ,d_] at G;rw[U6,pQ,d_] at an;refine⟨_,z,w',z,hw,ak,λ J al=>?_⟩;have:=k J al;unfold M.l1 at this;rw[ay (by simp[D,G]),aA an] at this;exact this
 ·rw[Mo,pQ,d_] at D;rw[Mp,pQ,d_] at G;rw[U6,pQ,d_] at an;refine⟨_,z,_,z,z,?_⟩;have:=k H (aH.refl _);unfold M.l1 at this;rw[ay (by simp[D,G]),ay an] at this;rw[pQ];exact this
structure U7 (sh:List Bytes):Prop where
 ne:sh≠[]
 free:∀w∈sh,¬ 32∈w
 nd:sh.Nodup
 len:(spaced sh).length<=4000
 jR:sh.length<=4000
structure U8 (ws:List Bytes):Prop where
 jR:ws.length<=4097
 len:∀w∈ws,w.length<=4096
 low:∀w∈ws,∀c∈w,c<128
inductive aig(T:e3 K am)(vs:List V)(H:aP)(Q:d7)(E:mD):Prop|mk l sh ws:vs=[.str (st (spaced sh)),.ref l]->H l=some (.lst (bM ws))->U7 sh->U8 ws->(hF sh ws=false->∀J,aH H J->Q .b6 J)->(hF sh ws=true->∀r J aw,aH H J->H r=none->J r=some (.cT aw)->(∀s,b4 aw (.inr (st s))=((kk sh ws s).map λ b=>V.str (st b)))->Q (.ref r) J)->aig T vs H Q E
def aih {a b s:Bytes}(h:∀p∈l,p.1≠a):(l++[(a,b)]).lookup s=if s=a then some b else l.lookup s:=by
 induction l with
 |nil=>
  by_cases e:s=a;·subst e;simp
  ·rw[ay e,wI,nG];have:(s==a)=false:=by simpa using e
   rw[this]
 |cons p r ih=>
  have ih:=ih λ q aK=>h q (cu _ aK);obtain⟨dR,_⟩:=p;rw[tu,nG,nG,ih];by_cases e:s=a
  ·subst e;have:(s==dR)=false:=by have:=h _ cn;simpa using λ B=>this B.symm
   rw[this,aA z]
  ·rw[ay e,ay e]
def zip_get {bO fH:Type}{l:List bO}{m:List fH}{i:Nat}{x:bO}{y:fH}(D:l[i]?=some x)(G:m[i]?=some y):(l.zip m)[i]?=some (x,y):=by rw[Nw];exact⟨D,G⟩
def aii:⇑7 3 T.fill (aig T):=by
 refine bX T.fill.F BU λ H _ _ _ h=>?_;obtain⟨l,sh,ws,rfl,ah,S,W,zi,Mq⟩:=h;refine⟨z,λ _ _ _ _ ab a1 _=>?_⟩;intro X;refine⟨_,(aJ (bQ 2 BU.nd (FH (O 0) g8)) (aJ (cb (b9 Af (dJ fJ z T.eu eK (U (O 2) ai)) (dJ fJ z T.eu eK (U (O 1) ai)) (b7 _)) (aN (a6 o2)) cj) (aJ (bQ 3 BU.nd xB) (aJ (gs f1 z (ZA z T.Lb (U (O 2) (U (O 1) ai))) (v6 (K:=K) (i:=4) (j:=5) z z BU.nd z z (Or.inl z) (Or.inl z) (Or.inl z) (Or.inl z)) (aJ (cb (iO (gE (bf T.fits T.I' (aif T) ab (U (O 4) (U (O 5) ai))))) (aN (a6 o2)) cj) (aN (Fk a1 (O 3) (O 4) (O 5) z)))) (aN (a6 (O 3))))))),?_⟩;have hz:(st (spaced sh)).length+2<=sizeLine:=by rw[f7];have:=S.len;exact gP ⇑1
 refine⟨_,z,⟨_,z⟩,_,_,z,z,z,hz,λ sl jm=>?_⟩;have ap:Txt.split (st (spaced sh)) " "=sh.map st:=by rw[Mj,M.xY S.ne S.free]
 rw[ap,<-s6];have al:aH H (upd H sl (.lst (bM sh))):=bp jm;have D:(upd H sl (.lst (bM sh))) sl=some (.lst (bM sh)):=aI;generalize upd H sl (.lst (bM sh))=H1 at al D;refine⟨_,z,sl,_,z,.inl (aG.of D),_,z,l,_,z,.inl (aG.of (al _ _ ah)),z,_,z,?_⟩;have Mr:∀m n:Nat,(!decide (V.int (m:Int)=V.int (n:Int)))=true↔¬m=n:=λ m n=>by rw[oP,DE];exact⟨λ h B=>h (by rw[B]),λ h B=>h (by injection B with B;omega)⟩
 refine bZ (λ G=>?_) (λ G=>?_)
 ·rw[Mr,fj,fj] at G;exact zi (by unfold hF;rw[eA G];rfl) _ al
 rw[Mr,fj,fj] at G;have G:=Classical.not_not.mp G;intro d hd;have aq:aH H (upd H1 d (.cT [])):=ev al (al.free hd);have nl:=al.free hd;have Ms:=cy D hd;refine⟨_,z,_,z,sl,l,bM sh,bM ws,z,aG.of (bw D Ms),aG.of (aq _ _ ah),ah0 (K:=K) (a:=sl) (b:=l) (xs:=bM sh) (ys:=bM ws)
  (λ i L J=>∃dE,SZ (λ e5=>L=[some (.str (st (spaced sh))),some (.ref l),some (.ref sl),some (.ref d),dE,e5]) (aH H J) (J sl=some (.lst (bM sh))) ((((sh.zip ws).take i).all λ p=>l1 p.1 p.2)=true/\∃aw:List (Key×V),J d=some (.cT aw)/\aw.length<=i/\∀s,b4 aw (.inr (st s))=((((sh.zip ws).take i).lookup s).map λ b=>V.str (st b))))
  ⟨none,none,z,aq,bw D Ms,⇑2,[],aI,bG _,λ s=>by simp[Fc]⟩ (by rw[fj,fj];exact G) (λ i L J _ ⟨_,_,_,q1,bb,_⟩=>⟨aG.of bb,aG.of (q1 _ _ ah)⟩) ?_ ?_⟩
 ·rintro i _ _ tp L J aa aC ⟨dE,e5,rfl,aO,a',a5,aw,bn,cx,g0⟩ iI;obtain⟨a,az,rfl⟩:=jt aa;obtain⟨b,Y,rfl⟩:=jt aC;have uL:=zip_get az Y;have bh:aH J (upd J tp (.tup [.str (st a),.str (st b)])):=bp iI;have U9:=gc Y;have alo:i<sh.length:=(c_.mp az).1;refine⟨tp,_,z,dh.of aI,z,_,_,z,_,_,z,z,_,z,_,z,a,b,z,W.len b U9,W.low b U9,λ _ ck=>⟨_,z,?_⟩⟩;cases q:l1 a b with
  |false=>
   refine df ?_;refine zi ?_ _ (aO.trans (bh.trans ck));unfold hF;have:((sh.zip ws).all λ p=>l1 p.1 p.2)=false:=by
    cases e:((sh.zip ws).all λ p=>l1 p.1 p.2) with
    |false=>rfl
    |true=>have:=hq.mp e _ (gc uL);rw[q] at this;cases this
   rw[this,D3]
  |true=>
   refine c7 ?_;refine⟨_,z,_,z,_,z,d,_,z,jP.k (k:=.inr (st a)) (ck _ _ (bh _ _ bn)) (em (by have:=S.jR;omega)),?_⟩;have cm:=bh.trans ck;refine⟨_,_,z,ev (aO.trans cm) nl,bw (cm _ _ a') Ms,?_,_,aI,?_,λ s=>?_⟩;·rw[eH uL,D1,a5];simp[q]
   ·have:=uh aw (.inr (st a)) (.str (st b));omega
   ·rw[ug,eH uL,aih,g0]
    ·by_cases e:s=a
     ·subst e;rw[aA z,aA z];rfl
     ·rw[ay e,ay];intro B;injection B with B;exact e (jr B)
    ·rintro⟨_,_⟩ ar B;obtain⟨j,a0⟩:=jz ar;have aij:j<i:=by have:=(c_.mp a0).1;rw[c5] at this;omega
     rw[Ny aij,Nw] at a0;have aik:=a0.1;have B:=B;subst B;have:=(List.getElem?_inj ⇑1 S.nd).mp (aik.trans az.symm);omega
 ·rintro L J ⟨dE,e5,rfl,aO,a',a5,aw,bn,cx,g0⟩;have gK:(sh.zip ws).length=sh.length:=by rw[List.length_zip];omega
  rw[fj,<-gK,fy] at a5 g0;exact⟨_,z,Mq (by unfold hF;rw[dO G,a5];rfl) d J aw aO nl bn g0⟩
def Mt:List V:=[.ref T.J7,.ref T.J9,.ref T.J',.ref T.Kb,.ref T.Kd,.ref T.Kf,.ref T.Kh,.ref T.Kj,.ref T.Kl,.ref T.Kn,.ref T.Kp,.ref T.Kr,.ref T.Kt,.ref T.Kv]
def U_ {i:Nat}(h:(Mt T)[i]?=some y):∃ad sh,y=.ref ad/\c9[i]?=some sh/\dD K ad [.int (sh.1:Int),.int sh.2.1,.str (st (spaced sh.2.2))]:=by
 match i,h with
 |0,h=>cases h;exact⟨_,_,z,z,T.J8⟩
 |1,h=>cases h;exact⟨_,_,z,z,T.J_⟩
 |2,h=>cases h;exact⟨_,_,z,z,T.Ka⟩
 |3,h=>cases h;exact⟨_,_,z,z,T.Kc⟩
 |4,h=>cases h;exact⟨_,_,z,z,T.Ke⟩
 |5,h=>cases h;exact⟨_,_,z,z,T.Kg⟩
 |6,h=>cases h;exact⟨_,_,z,z,T.Ki⟩
 |7,h=>cases h;exact⟨_,_,z,z,T.Kk⟩
 |8,h=>cases h;exact⟨_,_,z,z,T.Km⟩
 |9,h=>cases h;exact⟨_,_,z,z,T.Ko⟩
 |10,h=>cases h;exact⟨_,_,z,z,T.Kq⟩
 |11,h=>cases h;exact⟨_,_,z,z,T.Ks⟩
 |12,h=>cases h;exact⟨_,_,z,z,T.Ku⟩
 |13,h=>cases h;exact⟨_,_,z,z,T.Kw⟩
 |n+14,h=>cases h
def U' (h:sh∈c9):U7 sh.2.2:=by
 have:∀sh∈c9,sh.2.2≠[]/\(∀w∈sh.2.2,¬ 32∈w)/\sh.2.2.Nodup/\(spaced sh.2.2).length<=4000/\sh.2.2.length<=4000:=by decide+kernel
 obtain⟨D,G,an,aU,bY⟩:=this sh h;exact⟨D,G,an,aU,bY⟩
def ail (c):f2 c<128:=by
 unfold f2;split;·rename_i h;simp[M.sign] at h;omega
 ·decide
theorem we (sep:Nat):∀(b:Bytes),∀w∈split sep b,w.length<=b.length/\∀c∈w,c∈b
 |[],w,h=>by
  have:w=[]:=by simpa[split] using h
  subst this;simp
 |c::r,w,h=>by
  by_cases e:c=sep
  ·subst e;rw[M.qw] at h;rcases bN.mp h with rfl|h
   ·simp
   ·have:=we c r w h;exact⟨by rw[cJ];omega,λ d hd=>cu _ (this.2 d hd)⟩
  ·cases q:split sep r with
   |nil=>exact absurd q (M.k6 sep r)
   |cons x y=>
    rw[M.pi e q] at h;rcases bN.mp h with rfl|h
    ·have:=we sep r x (by rw[q];exact cn);refine⟨by simp;omega,λ d hd=>?_⟩;rcases bN.mp hd with rfl|hd
     ·exact cn
     ·exact cu _ (this.2 d hd)
    ·have:=we sep r w (by rw[q];exact cu _ h);exact⟨by rw[cJ];omega,λ d hd=>cu _ (this.2 d hd)⟩
def Va (b):((bd b).getLast? ==some 46)=true↔b.getLast? =some 46:=by
 rcases ri b with rfl|⟨r,c,rfl⟩;·simp[bd]
 ·unfold bd;simp;exact M.xZ 46 ⇑0
def Vb (b):(bd b).dropLast=bd b.dropLast:=by unfold bd;rw[List.map_dropLast]
def Mu (b):(bd b).length=b.length:=by unfold bd;rw[be]
def aim {w:Bytes}(h:number w=some n):iA w=true/\intOf w=n:=by
 rw[M.Gd] at h;split at h;·rename_i q;exact⟨q.1,by injection h⟩
 ·cases h
def ain {w:Bytes}(h:iA w=true):w.length<=11:=by
 unfold iA at h;simp only[dF,oP,fG] at h;have an:=h.2.2;unfold cW at an;split at an;·rw[lx] at an;omega
 ·omega
theorem Vc {bO:Type}{p:bO->Bool}:∀{l:List bO}{i:Nat}{x:bO},l[i]?=some x->p x=true->(∀j y,j<i->l[j]?=some y->p y=false)->l.findIdx p=i
 |[],i,x,h,_,_=>by cases h
 |y::r,0,x,h,ar,_=>by cases h;rw[rn,ar];rfl
 |y::r,i+1,x,h,ar,aB=>by rw[rn,aB 0 y (Nat.succ_pos _) z,Vc (l:=r) (i:=i) ↥h ar λ j B _ hz=>aB (j+1) B ⇑1 ↥hz];rfl
theorem Mv {bO:Type}{p:bO->Bool}:∀{l:List bO}{x:bO},l[l.findIdx p]?=some x->p x=true
 |[],x,h=>by cases h
 |y::r,x,h=>by
  rw[rn] at h;cases q:p y with
  |true=>rw[q] at h;cases h;exact q
  |false=>rw[q] at h;exact Mv (l:=r) ↥h
inductive aio:mD->Prop|mk{E}a b:ν=[.ref a]->η a=some (.lst (br b))->b.length<=4090->(readLine b=none->∀J,aH η J->θ .b6 J)->(∀s,readLine b=some s->∀p dx J,aH η J->η p=none->J p=some (.ins T.da dx (pA s))->θ (.ref p) J)->aio E
def Vd:⇑7 4 T.sG (aio T):=by
 refine bX T.sG.F uX λ H vs Q E h=>?_;obtain⟨a,b,rfl,Y,bR,zi,Mq⟩:=h;refine⟨z,λ _ _ _ _ ab a1 oC=>?_⟩;intro X;refine⟨_,(aJ (bQ 1 uX.nd (bf T.jp T.lg (nt T) ab (U (O 0) ai))) (aJ (cb (iO (gE (AM F.slot_str_endswith F.type_str_endswith ZP (O 1) g8))) (aN (a6 o2)) cj) (aJ (bQ 2 uX.nd (FH (rX Qu (O 1) t6 (qf (t0 t1 bc))) g8)) (aJ (gs f1 z (Ab (li T.yH)) (TN (K:=K) (i:=3) (j:=4) (m:=5) z z uX.nd z z z (Or.inl z) (Or.inl z) (Or.inl z) (Or.inl z) (Or.inl z) (Or.inl z)) (aJ (bQ 6 uX.nd (bf T.fill T.Ja (aii T) ab (U (O 5) (U (O 2) ai)))) (aN (cb (w_ (WT (O 6))) (aJ (bQ 7 uX.nd (mE (w_ (Y1 a1 g8 (O 6))) (o7 FF z T.yJ boot_int (U (Fj a1 (O 6) g8 (λ _ _=>rfl)) ai)) (O 4))) (aN (a6 (q6 T.lf T.oj T.om (q4 T) ab (U (O 3) (U (Fj a1 (O 6) g8 (λ _ _=>rfl)) (U (qo a1 (O 6) g8 g8 ⟨z,z,z,z⟩) (U (O 7) ai)))))))) cj)))) (aN (a6 o2)))))),?_⟩;refine⟨_,z,a,b,z,Y,⇑1,λ H1 al=>?_⟩;refine⟨_,z,⟨_,z⟩,_,_,z,z,_,z,?_⟩;rw[ahX];by_cases Df:b.getLast? =some 46
 case neg=>
  have e:((bd b).getLast? ==some 46)=false:=by
   cases q:((bd b).getLast? ==some 46) with
   |false=>rfl
   |true=>exact absurd ((Va b).mp q) Df
  rw[e];exact df (zi (M.Ga Df) _ al)
 rw[(Va b).mpr Df];refine c7 ?_;have hz:(st (bd b)).length<=sizeLine:=by rw[f7,Mu];exact gP ⇑1
 refine⟨_,z,_,z,_,z,_,z,hz,⟨_,z⟩,_,_,z,z,z,?_,λ g2 jS=>?_⟩;·rw[UY,f7,Vb,Mu,zD];exact gP ⇑1
 have ap:Txt.split (lR (st (bd b)) none (some (-1))) " "=((split 32 b.dropLast).map bd).map st:=by rw[UY,Mj,Vb,M.Ru]
 have ap:(Txt.split (lR (st (bd b)) none (some (-1))) " ").map V.str=bM ((split 32 b.dropLast).map bd):=by rw[ap,s6]
 have aq:aH H1 (upd H1 g2 (.lst ((Txt.split (lR (st (bd b)) none (some (-1))) " ").map V.str))):=bp jS;have G:(upd H1 g2 (.lst ((Txt.split (lR (st (bd b)) none (some (-1))) " ").map V.str))) g2=some (.lst (bM ((split 32 b.dropLast).map bd))):=by rw[aI,ap]
 have aq:=al.trans aq;generalize (upd H1 g2 (.lst ((Txt.split (lR (st (bd b)) none (some (-1))) " ").map V.str)))=aE at aq G;have W:U8 ((split 32 b.dropLast).map bd):=by
  refine⟨?_,λ w hw=>?_,λ w hw=>?_⟩;·rw[be];have:=M.split_len 32 b.dropLast;rw[zD] at this;omega
  ·obtain⟨v,ba,rfl⟩:=cd.mp hw;have:=(we 32 b.dropLast v ba).1;rw[Mu];rw[zD] at this;omega
  ·obtain⟨v,ba,rfl⟩:=cd.mp hw;intro c ak;unfold bd at ak;obtain⟨d,_,rfl⟩:=cd.mp ak;exact ail d
 have kn:=M.F' Df;have dH:M.place (split 32 b.dropLast)=c9.findIdx λ sh=>hF sh.2.2 ((split 32 b.dropLast).map bd):=rfl;generalize (split 32 b.dropLast).map bd=wf at G W kn dH;generalize M.place (split 32 b.dropLast)=pl at kn dH;have Ve:c9.length=14:=by decide+kernel
 refine⟨T.vR,z,⟨_,T.hJ.i1⟩,ED (K:=K) (a:=T.vR) (xs:=Mt T) (λ i L J=>BT λ hP dE e5=>∃hn,XL (λ lm=>L=[some (.ref a),some (.str (st (bd b))),some (.ref g2),hP,dE,e5,hn,lm]) (aH aE J) (∀(j:Nat) sh,j<i->c9[j]?=some sh->hF sh.2.2 wf=false))
  ⟨none,none,none,none,none,z,aH.refl _,λ j sh h=>absurd h (p5 _)⟩ (λ i L J _ _=>T.hJ.i1) ?_ ?_⟩
 ·rintro i y L J aj ⟨hP,dE,e5,hn,lm,rfl,aO,dK⟩;obtain⟨ad,sh,rfl,ji,iI⟩:=U_ T aj;have hm:=gc ji;refine⟨ad,_,z,iI.i1,z,_,_,z,_,_,z,_,_,z,z,?_⟩;refine⟨_,z,_,z,g2,sh.2.2,wf,z,aO _ _ G,U' hm,W,λ aS b1 bh=>?_,λ a_ d b1 aw bh nl hd pG=>?_⟩
  ·refine⟨_,z,_,z,c7 ⟨_,_,_,_,_,z,aO.trans bh,λ j Dg a0 la=>?_⟩⟩;by_cases q:j=i
   ·subst q;rw[ji] at la;cases la;exact aS
   ·exact dK j Dg ⇑1 la
  have d2:pl=i:=by rw[dH];exact Vc ji a_ dK
  subst d2;have Mw:pl<14:=by rw[<-Ve];exact(c_.mp ji).1
  rcases kn with⟨_,alp⟩|⟨s,Dg,AW,la,R⟩;·omega
  rw[ji] at la;cases la;have ck:=aq.trans (aO.trans bh);have Vf:b4 aw (.inr "SAID")=(kk sh.2.2 wf M.kx).map λ b=>V.str (st b):=pG M.kx;have aip:b4 aw (.inr "ABOUT")=(kk sh.2.2 wf M.kv).map λ b=>V.str (st b):=pG M.kv;have aiq:b4 aw (.inr "OTHER")=(kk sh.2.2 wf M.jY).map λ b=>V.str (st b):=pG M.jY;have Dh:∀x:Str,dV b1 d (.str x) (b4 aw (.inr x)):=λ x=>dV.k (k:=.inr x) hd;have cY:∀n:Int,n=bv s->∀cf:ef.St,cf[3]?=some (some (.int (sh.1:Int)))->cf[6]?=some (some (.ref d))->cf[7]?=some (some (.int n))->xb
          (TQ T.da
           (jG (i_ 3)
            (jG (PV (i_ 6) (i' (V.str "ABOUT")))
             (jG (P1 (i_ 6) (i' (V.str "OTHER")) (i' (V.str "")))
              (jG (i_ 7) je))))) {a7:=λ x J=>Q V.b6 J,nM:=Q} cf b1:=by
   intro n aB cf eF kW iP;have lN:dV b1 d (.str "ABOUT") (some (.str (st (aF s)))):=by have:=Dh "ABOUT";rw[aip,R.about] at this;exact this
   have jT:(b4 aw (.inr "OTHER")).getD (.str "")=.str (st (aD s)):=by rw[aiq,<-R.other];cases kk sh.2.2 wf M.jY<;>rfl
   refine⟨_,eF,_,kW,d,_,z,lN,_,kW,d,z,.inl ⟨_,.inl hd⟩,_,Dh _,_,iP,(sh.1:Int),st (aF s),st (aD s),n,?_,λ p dx fI cm wa ar=>?_⟩;·rw[jT]
   ·refine Mq s AW p dx fI (ck.trans cm) (ck.free wa) ?_;rw[ar,aB,R.aa9];rfl
  refine⟨_,z,_,z,df ⟨_,z,d,_,z,Dh _,_,z,?_⟩⟩;rw[Vf];rcases R.aba with⟨D,G⟩|⟨ww,D,G⟩
  ·rw[D];refine c7 ⟨_,z,?_⟩;exact cY _ G _ z z z
  ·rw[D];obtain⟨kj,pa⟩:=aim G;refine df ⟨_,z,d,_,z,?_,_,_,z,int_text kj,?_,?_⟩
   ·have:=Dh "SAID";rw[Vf,D] at this;exact this
   ·rw[f7];have:=ain kj;omega
   ·exact cY _ pa _ z z z
 ·rintro L J ⟨hP,dE,e5,hn,lm,rfl,aO,dK⟩;refine zi ?_ _ (aq.trans aO);rcases kn with⟨h,_⟩|⟨s,Dg,AW,la,R⟩
  ·exact h
  ·have Mw:=(c_.mp la).1;have aS:=dK pl Dg (by rw[Ve] at Mw;exact Mw) la;rw[dH] at la;have:=Mv la;rw[aS] at this;cases this
def rb (s:Sen)(i:Nat):List Bytes:=((c9.take i).filter λ sh=>sh.1==ag s).map λ sh=>spaced sh.2.2
def air (s):(rb s 14)[if (ag s=6\/ag s=7\/ag s=8)/\bv s=0 then 1 else 0]?=some (spaced (ft s)):=by
 cases s with
 |told a b y=>cases y<;>rfl
 |every a b y=>cases y<;>rfl
 |usual a b y=>cases y<;>rfl
 |value p t n=>rfl
 |first p t n=>rfl
 |_=>rfl
def ais (s)(i):(rb s i).length<=14:=by
 unfold rb;rw[be];refine cK (hR _ _) ?_;rw[c5];have:c9.length=14:=by decide+kernel
 omega
inductive ait:mD->Prop|mk{E}a s:ν=[.ref a]->ou T η a s->(∀J,aH η J->θ (.str (st (spaced (ft s)))) J)->ait E
def aiu:⇑7 1 T.u_ (ait T):=by
 refine bX T.u_.F HP λ H _ _ _ h=>?_;obtain⟨a,s,rfl,au,k⟩:=h;refine⟨z,λ _ _ _ _ _ _ _=>?_⟩;intro X;refine⟨_,(aJ (Ay (i:=1) z HP.nd z z (Az z z z z) (Ab (li T.yH)) (hB (own:=[("form",2),("answer",3),("shape",4)]) z) (λ _ _ _ _ _=>(TN (K:=K) (i:=2) (j:=3) (m:=4) z z HP.nd z z z (Or.inl z) (Or.inl z) (Or.inl z) (Or.inr z) (Or.inr z) (Or.inr z))) (λ _ _ _ _ _=>r0 (b9 eG (O 2) (hL T.bB T.gN (O 0)) (b7 _))) (λ _ _ _ _ _=>(O 4))) (aJ (cb (s1 (z8 (b9 mP (hL T.bB T.gN (O 0)) (gT (U (b5 T.sU) (U (b5 T.yD) (U (b5 T.JU) ai)))) z) (z7 (b9 eG (s2 T.bB T.oo (O 0)) bc (b7 _))))) (aN (a6 (hy jf (O 1) bc (λ _ _=>rfl)))) cj) (aN (a6 (hy jf (O 1) bc (λ _ _=>rfl)))))),?_⟩;refine⟨T.vR,z,⟨_,T.hJ.i1⟩,λ af cr=>?_⟩;refine YS (K:=K) (a:=T.vR) (xs:=Mt T) (fY H af λ i=>bM (rb s i)) (.start cr z) (λ i J _ h=>T.hJ.i1) ?_ ?_
 ·rintro i _ J aj h;obtain⟨ad,sh,rfl,ji,iI⟩:=U_ T aj;refine⟨ad,_,z,iI.i1,z,_,_,z,_,_,z,_,_,z,z,?_⟩;refine⟨z,_,z,_,z,a,s,z,au.same h.1,z,_,z,bZ (λ D=>⟨_,z,h.step cr (aH.refl _) ?_ ?_⟩) (λ D=>h.skip (aH.refl _) ?_)⟩
  ·have D:=(oy _).mp D;unfold rb;rw[eH ji,lw,db,pE];simp[D];rfl
  ·rw[fj];have:=ais s i;exact em ⇑1
  ·have D:¬sh.1=ag s:=λ B=>D ((oy _).mpr B);unfold rb;rw[eH ji,lw,db,pE];simp[D];rfl
 ·rintro J ⟨D,G⟩;have G:=G;have gu:=air s;have y_:∀j:Nat,(rb s 14)[j]?=some (spaced (ft s))->(bM (rb s 14))[j]?=some (.str (st (spaced (ft s)))):=λ j h=>by unfold bM;rw[d5,h];rfl
  refine⟨_,z,a,s,z,au.same D,i8,λ p ar=>?_⟩;have aq:aH J (upd J p (.tup [.int 6,.int 7,.int 8])):=bp ar;have an:=aq _ _ G;refine⟨p,_,z,.inr (dh.of aI),z,z,_,z,bZ (λ aU=>⟨_,z,a,s,z,au.same (D.trans aq),z,_,z,bZ (λ bY=>?_) (λ bY=>?_)⟩) (λ aU=>c7 ?_)⟩
  ·have aU:=CY.mp aU;have bY:bv s=0:=by have:=ge bY;injection this
   rw[aA ⟨⇑1,bY⟩] at gu;exact⟨_,z,af,_,_,_,z,z,aG.of an,at_of (j:=1) z (y_ 1 gu),k _ (D.trans aq)⟩
  ·have bY:¬bv s=0:=λ B=>bY (dO (by show V.int (bv s)=V.int 0;rw[B]));rw[ay λ B=>bY B.2] at gu;exact⟨_,z,af,_,_,_,z,z,aG.of an,at_of (j:=0) z (y_ 0 gu),k _ (D.trans aq)⟩
  ·have aU:¬((ag s:Int)=6\/(ag s:Int)=7\/(ag s:Int)=8):=λ B=>aU (CY.mpr B);rw[ay λ B=>aU (by have:=B.1;omega)] at gu;exact⟨_,z,af,_,_,_,z,z,aG.of an,at_of (j:=0) z (y_ 0 gu),k _ (D.trans aq)⟩
def Vg (n):∀k,n<10 ^ k->0<k->(M.jj n).length<=k:=by
 intro k;induction k generalizing n with
 |zero=>intro _ h;omega
 |succ k ih=>
  intro h _;by_cases aiv:n<10;·rw[M.Gb aiv];simp
  ·rw[M.Gc ⇑1,cX,kQ];cases k with
   |zero=>simp at h;omega
   |succ k=>have:=ih (n / 10) (by rw[Nat.pow_succ] at h;exact Nat.div_lt_of_lt_mul ⇑1) ⇑1;omega
def aiw (D: -1000000000<=n)(G:n<=1000000000):(dec n).length<=11:=by
 by_cases h:0<=n
 ·obtain⟨m,rfl⟩:=Int.eq_ofNat_of_zero_le h;rw[M.RO];have:=Vg m 10 ⇑1 ⇑0;omega
 ·obtain⟨m,hm⟩:∃m:Nat,n= -((m+1:Nat):Int):=⟨(-n - 1).toNat,⇑1⟩;rw[hm,M.RP,cJ];have:=Vg (m+1) 10 ⇑1 ⇑0;omega
def rc (h:isName b=true):b.length<=12:=by unfold isName at h;simp only[dF,fG] at h;exact h.2.1
def Di (sl:Bytes):Nat:=if sl=M.kv then 12 else if sl=M.jY then 12 else if sl=M.kx then 11 else sl.length
def sub_len (h:M.cE s)(sl):(sub s sl).length<=Di sl:=by
 unfold sub Di;split;·exact rc h.aF
 ·split
  ·rcases h.aD with q|q
   ·have:aD s=[]:=by cases s<;>first|rfl|(simp[ag] at q)
    rw[this];exact cQ _
   ·exact rc q
  ·split
   ·exact aiw h.lo h.aj
   ·exact bG _
theorem Mx:∀(l:List Bytes),(spaced l).length<=(l.map λ b=>b.length+1).sum
 |[]=>bG _
 |[x]=>by show x.length<=_;simp
 |x::y::r=>by have:=Mx (y::r);show(x++32::spaced (y::r)).length<=_;rw[cX,cJ,bU,oT];omega
theorem Vh {bO:Type}{f g:bO->Nat}:∀(l:List bO),(∀x,f x<=g x)->(l.map f).sum<=(l.map g).sum
 |[],_=>bG _
 |x::r,h=>by rw[bU,bU,oT,oT];have:=Vh r h;have:=h x;omega
def Vi (s):∃sh∈c9,ft s=sh.2.2:=by
 have:∀i,i<14->c9.getD i (0,0,[])∈c9:=by decide+kernel
 refine⟨_,this (M.iW s) ?_,z⟩;cases s with
 |told a b y=>cases y<;>(simp[M.iW])
 |every a b y=>cases y<;>(simp[M.iW])
 |usual a b y=>cases y<;>(simp[M.iW])
 |_=>simp[M.iW]
def Vj (h:M.cE s):(((ft s).map (sub s)).map λ b=>b.length+1).sum<=62:=by
 obtain⟨sh,D,G⟩:=Vi s;rw[G,ht];refine cK (Vh (g:=λ sl=>Di sl+1) sh.2.2 λ sl=>?_) ?_
 ·show(sub s sl).length+1<=_;have:=sub_len h sl;omega
 ·have:∀sh∈c9,(sh.2.2.map λ sl=>Di sl+1).sum<=62:=by decide+kernel
  exact this sh D
def Vk (h:M.cE s):(shown s).length<=63:=by rw[M.RI,cX,kQ];have:=Mx ((ft s).map (sub s));have:=Vj h;omega
def aix (D: -1000000000<=n)(G:n<=1000000000):n.natAbs.log2<1920:=by
 by_cases aX:n.natAbs=0;·rw[aX];decide
 ·have:=(Nat.log2_lt (k:=40) aX).mpr ⇑1;omega
inductive aiy:mD->Prop|mk{E}a s:ν=[.ref a]->ou T η a s->M.cE s->(∀J,aH η J->θ (.str (st (shown s))) J)->aiy E
def aiz:⇑7 2 T.written (aiy T):=by
 refine bX T.written.F BV λ H _ _ _ h=>?_;obtain⟨a,s,rfl,au,ok,k⟩:=h;refine⟨z,λ _ _ _ _ ab a1 _=>?_⟩;intro X;refine⟨_,(aJ (tW (i:=1) BV.nd z (Or.inr z) (Y8 (Fm g8 (js T.bB T.ia (O 0)) (Fm g8 (hM T.bB T.gO (O 0)) (Fm g8 (o7 EH z T.yL boot_str (U (s2 T.bB T.oo (O 0)) ai)) Y6))) z z ⇑3 ⇑0)) (aJ (Ay (i:=2) z BV.nd z z (Az z z z z) (eN (FH (bf T.u_ T.Jb (aiu T) ab (U (O 0) ai)) g8)) (hB (own:=[("slot",3)]) z) (λ _ _ _ _ _=>(gF (i:=3) BV.nd z (Or.inl z) (Or.inr z))) (λ _ _ _ _ _=>k0) (λ _ _ _ _ _=>(qo a1 (O 1) (O 3) (O 3) ⟨z,z,z,z⟩))) (aN (a6 (e0 Xm (Qr g8 (O 2)) g8))))),?_⟩;intro d hd;have al:aH H (upd H d (.cT [])):=bp hd;have o9:=au.same al;refine⟨_,z,a,s,z,o9,_,z,a,s,z,o9,_,z,a,s,z,o9,_,z,aix ok.lo ok.aj,aI,[(.inr "ABOUT",.str (st (aF s))),(.inr "OTHER",.str (st (aD s))),(.inr "SAID",.str (st (dec (bv s))))],?_,(by show 3<=15;decide),?_⟩;·rw[<-UT];rfl
 have Vl:∀sl:Bytes,((b4 (h0 [] ([(.inr "ABOUT",.str (st (aF s))),(.inr "OTHER",.str (st (aD s))),(.inr "SAID",.str (st (dec (bv s))))]:List (Key×V))) (.inr (st sl))).getD (.str (st sl)))=.str (st (sub s sl)):=by
  intro sl;have ap:h0 [] ([(.inr "ABOUT",.str (st (aF s))),(.inr "OTHER",.str (st (aD s))),(.inr "SAID",.str (st (dec (bv s))))]:List (Key×V))=putK (putK (putK [] (.inr (st M.kv)) (.str (st (aF s)))) (.inr (st M.jY)) (.str (st (aD s)))) (.inr (st M.kx)) (.str (st (dec (bv s)))):=rfl;have h9:∀x y:Bytes,((.inr (st x):Key)=.inr (st y))↔x=y:=λ x y=>⟨λ B=>by injection B with B;exact jr B,λ B=>by rw[B]⟩;rw[ap,ug,ug,ug,Fc];unfold sub;by_cases D:sl=M.kv;·subst D;rw[ay (λ B=>absurd ((h9 _ _).mp B) ⇑0),ay (λ B=>absurd ((h9 _ _).mp B) ⇑0),aA z,aA z];rfl
  ·by_cases G:sl=M.jY
   ·subst G;rw[ay (λ B=>absurd ((h9 _ _).mp B) ⇑0),aA z,ay D,aA z];rfl
   ·by_cases an:sl=M.kx
    ·subst an;rw[aA z,ay D,ay G,aA z];rfl
    ·rw[ay (λ B=>an ((h9 _ _).mp B)),ay (λ B=>G ((h9 _ _).mp B)),ay (λ B=>D ((h9 _ _).mp B)),ay D,ay G,ay an];rfl
 generalize h0 [] ([(.inr "ABOUT",.str (st (aF s))),(.inr "OTHER",.str (st (aD s))),(.inr "SAID",.str (st (dec (bv s))))]:List (Key×V))=aw at Vl;have aq:aH H (upd (upd H d (.cT [])) d (.cT aw)):=ev al hd;have ew:(upd (upd H d (.cT [])) d (.cT aw)) d=some (.cT aw):=aI;generalize (upd (upd H d (.cT [])) d (.cT aw))=aE at aq ew;obtain⟨_,o0,gq⟩:=Vi s;have S:=U' o0;rw[<-gq] at S;refine⟨_,z,a,s,z,au.same aq,λ bj aO=>⟨⟨_,z⟩,_,_,z,z,z,by rw[f7];have:=S.len;exact gP ⇑1,λ g2 jS=>?_⟩⟩;rw[Mj,M.xY S.ne S.free,<-s6];have bh:aH bj (upd bj g2 (.lst (bM (ft s)))):=bp jS;have aU:(upd bj g2 (.lst (bM (ft s)))) g2=some (.lst (bM (ft s))):=aI;have ck:=aq.trans (aO.trans bh);have q9:=bh _ _ (aO _ _ ew);generalize upd bj g2 (.lst (bM (ft s)))=eO at bh aU ck q9;refine⟨g2,z,⟨_,aG.of aU⟩,λ af cr=>?_⟩;refine km (K:=K) (a:=g2) (xs:=bM (ft s)) (fY eO af λ i=>bM (((ft s).take i).map (sub s))) (.start cr z) (λ i J _ h=>aG.of (h.1 _ _ aU)) ?_ ?_
 ·rintro i x J aj h;obtain⟨sl,jm,rfl⟩:=jt aj;have qh:=S.jR;refine⟨z,lk ⟨_,z,d,z,.inl ⟨_,.inl (h.1 _ _ q9)⟩,_,z,_,z,_,dV.k (k:=.inr (st sl)) (h.1 _ _ q9),?_⟩⟩;rw[Vl];refine h.step cr (aH.refl _) ?_ ?_
  ·show bM (((ft s).take (i+1)).map (sub s))=_;rw[eH jm,db,pE];rfl
  ·rw[fj,be,c5];exact em ⇑1
 ·rintro J ⟨D,G⟩;have G:J af=some (.lst (bM (((ft s).take (bM (ft s)).length).map (sub s)))):=G;rw[fj,fy,s6] at G;have hw:=Vj ok;have s8:∀l:List Bytes,((l.map st).map (·.length)).sum+(l.map st).length * 1=(l.map λ b=>b.length+1).sum:=by
   intro l;induction l with
   |nil=>rfl
   |cons x r ih=>simp only[bU,oT,cJ,f7] at ih⊢;omega
  refine⟨⟨_,z⟩,_,z,_,af,_,z,z,.inl (aG.of G),?_,?_⟩
  ·have:=s8 ((ft s).map (sub s));show _+_ * 1<=_;omega
  ·rw[ahU];refine⟨_,_,z,z,?_,?_⟩
   ·rw[f7];show _+1<=_;have:=Mx ((ft s).map (sub s));exact gP ⇑1
   ·have:=k J (ck.trans D);rw[M.RI,<-ahW] at this;exact this
structure Parts (H J:aP)(pl:Addr)(ps:List Addr)(ls:List Bytes):Prop where
 base:aH H J
 own:H pl=none
 lst:J pl=some (.lst (ps.map V.ref))
 len:ps.length=ls.length
 at_:∀(j:Nat)(p:Addr)(x:Bytes),ps[j]?=some p->ls[j]?=some x->J p=some (.lst (br x))
 free:∀p∈ps,H p=none
 ne:∀p∈ps,p≠pl
 nd:ps.Nodup
def Parts.new (aK:H q=none)(ar:upd H q (.lst []) pl=none):Parts H (upd (upd H q (.lst [])) pl (.lst [.ref q])) pl [q] [[]]:=by
 have rd:=cy aI ar;have aX:H pl=none:=by rw[dv rd.symm] at ar;exact ar
 refine⟨ev (bp aK) aX,aX,aI,z,λ j p _ D G=>?_,λ p za=>?_,λ p za=>?_,⇑2⟩
 ·cases j with
  |zero=>cases D;cases G;exact bw aI rd
  |succ j=>cases D
 ·rw[dL.mp za];exact aK
 ·rw[dL.mp za];exact rd
def Parts.more (h:Parts H J pl ps ls)(aK:J q=none):Parts H (upd (upd J q (.lst [])) pl (.lst (ps.map V.ref++[.ref q]))) pl (ps++[q]) (ls++[[]]):=by
 have rd:=cy h.lst aK;refine⟨ev (ev h.base (h.base.free aK)) h.own,h.own,by rw[aI,db];rfl,by simp[h.len],λ j p x D G=>?_,λ p ar=>?_,λ p ar=>?_,?_⟩
 ·by_cases q1:j<ps.length
  ·rw[jx q1] at D;rw[jx (by rw[<-h.len];exact q1)] at G;have e:=h.at_ j p x D G;exact bw (bw e (cy e aK)) (h.ne p (gc D))
  ·have a0:j=ps.length:=by have:=(c_.mp D).1;simp at this;omega
   subst a0;rw[rg] at D;rw[h.len,rg] at G;cases D;cases G;exact bw aI rd.symm
 ·rcases eJ.mp ar with B|B
  ·exact h.free p B
  ·rw[dL.mp B];exact h.base.free aK
 ·rcases eJ.mp ar with B|B
  ·exact h.ne p B
  ·rw[dL.mp B];exact rd.symm
 ·refine zJ.mpr ⟨h.nd,⇑2,λ x aa _ aC B=>?_⟩;rw[dL.mp aC] at B;subst B;obtain⟨j,a0⟩:=jz aa;have ah:j<ls.length:=by rw[<-h.len];exact(c_.mp a0).1
  have:=h.at_ j x _ a0 (ez ah);rw[aK] at this;cases this
def Parts.last {c:Nat}(h:Parts H J pl (ps++[p]) (ls++[x])):J p=some (.lst (br x))/\Parts H (upd J p (.lst (br x++[.int (c:Int)]))) pl (ps++[p]) (ls++[x++[c]]):=by
 have ah:ps.length=ls.length:=by have:=h.len;simpa using this
 have e:=h.at_ ps.length p x ⇑2 (by rw[ah];simp);have hm:p∈ps++[p]:=by simp
 refine⟨e,ev h.base (h.free p hm),h.own,bw h.lst (h.ne p hm).symm,by simp[ah],λ j q y D G=>?_,h.free,h.ne,h.nd⟩;by_cases q1:j<ps.length
 ·have uo:=D;rw[jx q1] at D;rw[jx ⇑1] at G;have rd:q≠p:=by intro B;subst B;have:=(zJ.mp h.nd).2.2 q (gc D) q ⇑2;exact this z
  exact bw (h.at_ j q y uo (by rw[jx ⇑1];exact G)) rd
 ·have a0:j=ps.length:=by have:=(c_.mp D).1;simp at this;omega
  subst a0;rw[rg] at D;rw[ah,rg] at G;cases D;cases G;rw[aI,iH];rfl
inductive aiA(T:e3 K am)(vs:List V)(H:aP)(Q:d7)(E:mD):Prop|mk a b:vs=[.ref a]->H a=some (.lst (br b))->b.length<=4090->(∀r ps J,Parts H J r ps (split 10 b)->Q (.ref r) J)->aiA T vs H Q E
def aiB:⇑7 1 T.parted (aiA T):=by
 refine bX T.parted.F Iz λ H _ _ _ h=>?_;obtain⟨a,b,rfl,Y,_,k⟩:=h;refine⟨z,λ _ _ _ _ _ _ _=>?_⟩;intro X;refine⟨_,(aJ (bQ 1 Iz.nd (b_ (U (b_ ai) ai))) (aJ (gs f1 z (eN (O 0)) (ib 2 Iz.nd) (aN (cb (b9 eG (O 2) (b5 T.CA) (b7 _)) (aN (eY (fX hK (O 1) (U (b_ ai) ai)))) (aN (eY (fX hK (hy jf (O 1) (t0 t1 bc) (λ _ _=>rfl)) (U (O 2) ai))))))) (aN (a6 (O 1))))),?_⟩;refine⟨cQ _,λ q aK=>⟨dY,λ pl d2=>?_⟩⟩;have My:=Parts.new aK d2;generalize (upd (upd H q (.lst [])) pl (.lst [.ref q]))=H1 at My;refine⟨_,z,a,z,⟨_,aG.of (My.base _ _ Y)⟩,ha (K:=K) (a:=a) (xs:=br b) (λ i L J=>∃(k_:Option V)(ps:List Addr),L=[some (.ref a),some (.ref pl),k_]/\Parts H J pl ps (split 10 (b.take i)))
  ⟨none,_,z,My⟩ (λ i L J _ ⟨_,_,_,q⟩=>aG.of (q.base _ _ Y)) ?_ ?_⟩
 ·rintro i _ L J aj ⟨k_,ps,rfl,R⟩;intro A;obtain⟨c,ak,rfl⟩:=s3 aj;have jm:=M.split_len 10 (b.take i);rw[c5] at jm;have a8:=M.Sf 10 (b.take i) c;rw[<-eH ak] at a8;refine⟨_,z,z,_,z,bZ (λ D=>?_) (λ D=>?_)⟩
  ·have D:=(oy _).mp D;rw[aA D] at a8;refine⟨_,z,.inl ⟨z,_,aG.of R.lst⟩,cQ _,λ bb nn=>?_⟩;refine⟨pl,_,_,z,z,bw R.lst (cy R.lst nn),?_,_,ps++[bb],z,?_⟩
   ·rw[be,R.len];exact em ⇑1
   ·rw[a8];exact R.more nn
  ·have D:¬c=10:=λ B=>D ((oy _).mpr B);rw[ay D] at a8;obtain⟨ls,x,ta⟩:∃ls x,split 10 (b.take i)=ls++[x]:=by
    rcases ri (split 10 (b.take i)) with B|⟨l,x,B⟩;·exact absurd B (M.k6 _ _)
    ·exact⟨l,x,by rw[B,wA]⟩
   rw[ta] at R a8;obtain⟨fQ,p,Mz⟩:∃fQ p,ps=fQ++[p]:=by
    rcases ri ps with B|⟨l,x,B⟩;·have:=R.len;rw[B] at this;simp at this
    ·exact⟨l,x,by rw[B,wA]⟩
   subst Mz;obtain⟨e,hV⟩:=R.last (c:=c);have aa:x.length<=b.length:=by have:=(we 10 (b.take i) x (by rw[ta];simp)).1;rw[c5] at this;omega
   refine⟨_,z,_,z,pl,_,_,.ref p,z,z,aG.of R.lst,(by rw[db];exact ef.xl _ (V.ref p)),.inl ⟨z,_,aG.of e⟩,_,z,p,_,_,z,z,e,?_,_,fQ++[p],z,?_⟩;·rw[du];exact em ⇑1
   ·rw[a8];simp only[DK,DL];exact hV
 ·rintro L J ⟨k_,ps,rfl,R⟩;rw[du,fy] at R;exact⟨_,z,k pl ps J R⟩
def pR (aZ:Addr)(H:aP)(v:V)(o:Option Sen):Prop:=(o=none/\v=.b6)\/∃s p,o=some s/\v=.ref p/\j7 aZ H p s
structure i3 (aZ:Addr)(H:aP)(l:Addr)(os:List (Option Sen))(vs:List V):Prop where
 lst:H l=some (.lst vs)
 len:vs.length=os.length
 at_:∀(j:Nat)(v:V)(o:Option Sen),vs[j]?=some v->os[j]?=some o->pR aZ H v o
def pR.same (h:pR aZ H v o)(k:aH H J):pR aZ J v o:=by
 rcases h with h|⟨s,p,D,G,an⟩;·exact .inl h
 ·exact .inr ⟨s,p,D,G,an.same k⟩
def i3.same {os:List (Option Sen)}(h:i3 aZ H l os vs)(k:aH H J):i3 aZ J l os vs:=⟨k _ _ h.lst,h.len,λ j v o D G=>(h.at_ j v o D G).same k⟩
def pR.put (h:pR aZ H v o)(ah:H l=some (.lst xs)):pR aZ (upd H l (.lst ys)) v o:=by
 rcases h with h|⟨s,p,D,G,dx,an⟩;·exact .inl h
 ·exact .inr ⟨s,p,D,G,dx,bw an (cw an ah ⇑3)⟩
def i3.push {os:List (Option Sen)}(h:i3 aZ H l os vs)(q:pR aZ H v o):i3 aZ (upd H l (.lst (vs++[v]))) l (os++[o]) (vs++[v]):=by
 refine⟨aI,by simp[h.len],λ j u fz D G=>?_⟩;by_cases q1:j<vs.length
 ·rw[jx q1] at D;rw[jx (by rw[<-h.len];exact q1)] at G;exact(h.at_ j u fz D G).put h.lst
 ·have a0:j=vs.length:=by have:=(c_.mp D).1;simp at this;omega
  subst a0;rw[rg] at D;rw[h.len,rg] at G;cases D;cases G;exact q.put h.lst
inductive aiC:mD->Prop|mk{E}a b:ν=[.ref a]->η a=some (.lst (br b))->b.length<=4090->(∀r xs J,aH η J->η r=none->i3 T.da J r (l4 b) xs->θ (.ref r) J)->aiC E
def aiD (xs):lK xs none (some (-1))=xs.dropLast:=by
 have e:c8.dn xs.length xs.length (some (-1))=xs.length - 1:=by show(if (-1:Int)<0 then((-1:Int)+(xs.length:Int)).toNat else min (-1:Int).toNat xs.length)=xs.length - 1;rw[aA ⇑0];omega
 unfold lK;rw[e];show(xs.drop 0).take (xs.length - 1 - 0)=_;rw[wM,NN];rfl
def Vm:⇑7 5 T.m7 (aiC T):=by
 refine bX T.m7.F BY λ _ _ _ _ h=>?_;obtain⟨a,b,rfl,Y,bR,k⟩:=h;refine⟨z,λ _ _ _ _ ab _ _=>?_⟩;intro X;refine⟨_,(aJ (bQ 1 BY.nd (bf T.parted T.Jt (aiB T) ab (U (O 0) ai))) (aJ (Ay (i:=2) z BY.nd z z (Az z z z z) (eN (rX xm (O 1) t6 (qf (t0 t1 bc)))) (hB (own:=[("part",3)]) z) (λ _ _ _ _ _=>(gF (i:=3) BY.nd z (Or.inl z) (Or.inr z))) (λ _ _ _ _ _=>k0) (λ _ _ _ _ _=>(bf T.sG T.B7 (Vd T) ab (U (O 3) ai)))) (aJ (cb (b9 fO (dJ fJ z T.eu eK (U (hy jf (O 1) (t0 t1 bc) (λ _ _=>rfl)) ai)) bc (b7 _)) (aN (eY (fX hK (O 2) (U o2 ai)))) cj) (aN (a6 (O 2)))))),?_⟩;refine⟨_,z,a,b,z,Y,bR,λ pl ps H1 R=>?_⟩;obtain⟨ls,x,ta⟩:∃ls x,split 10 b=ls++[x]:=by
  rcases ri (split 10 b) with B|⟨l,x,B⟩;·exact absurd B (M.k6 _ _)
  ·exact⟨l,x,by rw[B,wA]⟩
 have jm:=M.split_len 10 b;have Vn:=we 10 b;have aiE:l4 b=ls.map readLine++(if x.isEmpty=true then[] else[none]):=by unfold M.l4 M.c3;rw[ta,DK,DL]
 rw[ta] at R jm Vn;rw[aiE] at k;obtain⟨fQ,p,Mz⟩:∃fQ p,ps=fQ++[p]:=by
  rcases ri ps with B|⟨l,x,B⟩;·have:=R.len;rw[B] at this;simp at this
  ·exact⟨l,x,by rw[B,wA]⟩
 subst Mz;have oA:fQ.length=ls.length:=by have:=R.len;simpa using this
 refine⟨_,z,_,z,_,z,pl,_,z,aG.of R.lst,λ sl Uo=>?_⟩;have aiF:lK ((fQ++[p]).map V.ref) none (some (-1))=fQ.map V.ref:=by rw[aiD];simp
 rw[aiF];have aq:aH H1 (upd H1 sl (.lst (fQ.map V.ref))):=bp Uo;have G:(upd H1 sl (.lst (fQ.map V.ref))) sl=some (.lst (fQ.map V.ref)):=aI;generalize upd H1 sl (.lst (fQ.map V.ref))=aE at aq G;have ed:=R.base.trans aq;refine⟨sl,z,⟨_,aG.of G⟩,λ af cr=>?_⟩;refine km (K:=K) (a:=sl) (xs:=fQ.map V.ref) (λ i J=>aH aE J/\∃xs,i3 T.da J af ((ls.take i).map readLine) xs) ⟨bp cr,[],aI,z,λ _ v _ h=>by simp at h⟩ (λ i J _ h=>aG.of (h.1 _ _ G)) ?_ ?_
 ·rintro i _ J aj ⟨aO,xs,c3⟩;rw[d5] at aj;cases eq:fQ[i]? with
  |none=>rw[eq] at aj;cases aj
  |some q=>
   rw[eq] at aj;cases aj;have uO:i<ls.length:=by rw[<-oA];exact(c_.mp eq).1
   have aa:=ez uO;have e:=R.at_ i q ls[i] (by rw[jx ⇑1];exact eq) (by rw[jx uO];exact aa);have alq:=(Vn ls[i] ⇑2).1;have hz:xs.length<sizeLine:=by rw[c3.len,be,c5];simp at jm;exact em ⇑1
   have step:∀v b1,aH J b1->pR T.da b1 v (readLine ls[i])->∃aY,b1 af=some (.lst aY)/\aY.length<sizeLine/\(aH aE (upd b1 af (.lst (aY++[v])))/\∃xs,i3 T.da (upd b1 af (.lst (aY++[v]))) af ((ls.take (i+1)).map readLine) xs):=λ v b1 bh ba=>by have Vo:=c3.same bh;refine⟨xs,Vo.lst,hz,ev (aO.trans bh) cr,xs++[v],?_⟩;rw[eH aa,db];exact Vo.push ba
   refine⟨z,lk ⟨_,z,q,ls[i],z,aO _ _ (aq _ _ e),⇑1,λ aB b1 bh=>step _ b1 bh (.inl ⟨aB,z⟩),λ s au p dx b1 bh _ ar=>step _ b1 bh (.inr ⟨s,p,au,z,dx,ar⟩)⟩⟩
 ·rintro J ⟨aO,xs,c3⟩;rw[be,oA,fy] at c3;have e:=R.at_ fQ.length p x ⇑2 (by rw[oA];simp);have i2:=ed.trans aO;have hz:xs.length<sizeLine:=by rw[c3.len,be];simp at jm;exact em ⇑1
  refine⟨_,z,_,z,pl,_,_,.ref p,z,z,aG.of (aO _ _ (aq _ _ R.lst)),(by rw[db];exact ef.xl _ (V.ref p)),p,_,z,.inl (aG.of (aO _ _ (aq _ _ e))),_,_,z,z,_,z,bZ (λ D=>?_) (λ D=>?_)⟩
  ·rw[du] at D;have D:=ge D;have aa:x.isEmpty=false:=by cases x with
    |nil=>simp at D
    |cons c r=>rfl
   rw[aa,ay ⇑0] at k;refine⟨_,z,.inl ⟨z,_,aG.of c3.lst⟩,af,_,_,z,z,c3.lst,hz,?_⟩;exact⟨_,z,k af _ _ (ev i2 (ed.free cr)) (ed.free cr) (c3.push (.inl ⟨z,z⟩))⟩
  ·rw[du] at D;have D:¬_:=λ B=>D (dO B);have aa:x.isEmpty=true:=by cases x with
    |nil=>rfl
    |cons c r=>exact absurd ⇑2 D
   rw[aa,aA z,hr] at k;exact⟨_,z,k af _ _ i2 (ed.free cr) c3⟩
def Vp (l m):shownAll (l++m)=shownAll l++shownAll m:=by unfold shownAll;rw[tr]
inductive aiG:mD->Prop|mk{E}l ss:ν=[.ref l]->gA T η l ss->(∀s∈ss,M.cE s)->(shownAll ss).length<=sizeLine->(∀r J,aH η J->η r=none->J r=some (.lst (br (shownAll ss)))->θ (.ref r) J)->aiG E
def Dj:⇑7 3 T.py (aiG T):=by
 refine bX T.py.F IC λ H _ _ _ h=>?_;obtain⟨l,ss,rfl,cq,ok,_,k⟩:=h;refine⟨z,λ _ _ _ _ ab _ _=>?_⟩;intro X;refine⟨_,(aJ (bQ 1 IC.nd (b_ ai)) (aJ (gs f1 z (eN (O 0)) (ib 2 IC.nd) (aJ (eY (fX qY (O 1) (U (bf T.qO T.yp (Ml T) ab (U (bf T.written T.Jc (aiz T) ab (U (O 2) ai)) ai)) ai))) (aN (eY (fX hK (O 1) (U (b5 T.CA) ai)))))) (aN (a6 (O 1))))),?_⟩;refine⟨cQ _,λ j' pS=>?_⟩;have al:aH H (upd H j' (.lst [])):=bp pS;obtain⟨as,ah,a8⟩:=cq;refine⟨_,z,l,z,⟨_,aG.of (al _ _ ah)⟩,ha (K:=K) (a:=l) (xs:=as.map V.ref) (λ i L J=>XL (λ k_=>L=[some (.ref l),some (.ref j'),k_]) (aH H J) (J j'=some (.lst (br (shownAll (ss.take i))))))
  ⟨none,z,al,aI⟩ (λ i L J _ ⟨_,_,q,_⟩=>aG.of (q _ _ ah)) ?_ ?_⟩
 ·rintro i _ L J aj ⟨k_,rfl,aq,G⟩;intro A;rw[d5] at aj;cases e:as[i]? with
  |none=>rw[e] at aj;cases aj
  |some b=>
   rw[e] at aj;cases aj;obtain⟨s,ae,au⟩:=a8.get e;have bi:=ok s (gc ae);have hsz:(shownAll (ss.take i)).length+((shown s).length+1)<=(shownAll ss).length:=by
    have an:ss=ss.take i++s::ss.drop (i+1):=by have l7:=(c_.mp ae).1;have:ss[i]=s:=(c_.mp ae).2;rw[<-this,<-ny l7,oM]
    rw[an,Vp];have:shownAll (s::ss.drop (i+1))=shown s++[10]++shownAll (ss.drop (i+1)):=by unfold shownAll;rw[my]
    rw[this];simp only[cX,kQ,List.take_left',c5];have aU:(List.take i (List.take i ss++s::List.drop (i+1) ss))=List.take i ss:=by rw[<-an]
    rw[aU];omega
   have bR:=Vk bi;refine⟨_,z,.inl ⟨z,_,aG.of G⟩,_,z,b,s,z,au.same aq,bi,λ _ aO=>⟨shown s,z,⇑1,λ r b1 bh _ MA=>?_⟩⟩;have aU:=bh _ _ (aO _ _ G);refine⟨j',r,_,_,z,z,aU,MA,?_,?_⟩;·rw[du,du];omega
   ·have ck:aH H (upd b1 j' (.lst (br (shownAll (ss.take i))++br (shown s)))):=ev (aq.trans (aO.trans bh)) pS;refine⟨_,z,.inl ⟨z,_,aG.of aI⟩,j',_,_,z,z,aI,?_,?_⟩
    ·rw[cX,du,du];omega
    ·refine⟨_,z,ev ck pS,?_⟩;rw[aI,eH ae,Vp];have:shownAll [s]=shown s++[10]:=by unfold shownAll;simp
     rw[this,iH,iH,iL];rfl
 ·rintro L J ⟨k_,rfl,aq,G⟩;rw[be,a8.len,fy] at G;exact⟨_,z,k j' J aq pS G⟩
def bS (xs:List Int):List V:=xs.map V.int
def iJ (xs):(bS xs).length=xs.length:=be _
def MB {i:Nat}(h:(bS l)[i]?=some v):∃n,l[i]?=some n/\v=.int n:=by
 unfold bS at h;rw[d5] at h;cases e:l[i]? with
 |none=>rw[e] at h;cases h
 |some n=>rw[e] at h;cases h;exact⟨n,z,z⟩
def lq (h:isText n xs=true):bS xs=br (bytes xs):=by unfold isText at h;rw[dF] at h;unfold bS br bytes;rw[ht];refine mu λ x aa=>?_;have:=hq.mp h.2 x aa;unfold inr at this;rw[dF,fG] at this;show V.int x=V.int (x.toNat:Int);rw[NZ this.1]
def kJ (xs):(bytes xs).length=xs.length:=by unfold bytes;exact be _
def kK (h:isText n xs=true):xs.length<=n:=by unfold isText at h;rw[dF] at h;exact ge h.1
inductive aiH(T:e3 K am)(vs:List V)(H:aP)(Q:d7)(E:mD):Prop|mk (a:Addr)(xs:List Int)(n:Nat):vs=[.ref a,.int (n:Int)]->H a=some (.lst (bS xs))->n<=4000->(∀J,aH H J->Q (.bg (isText n xs)) J)->aiH T vs H Q E
def MC:⇑7 1 T.qS (aiH T):=by
 refine bX T.qS.F Ic λ H _ _ _ h=>?_;obtain⟨a,xs,n,rfl,az,_,k⟩:=h;refine⟨z,λ _ _ _ _ _ _ _=>?_⟩;intro X;refine⟨_,(aN (a6 (rI (hX rO (dJ fJ z T.eu eK (U (O 0) ai)) (O 1) (b7 _)) (nN (dJ (Ap z) z T.vW boot_all (U (jg z Ic.nd (eN (O 0)) (hB (own:=[("byte",2)]) z) (λ _ _ _ _ _=>(gF (i:=2) Ic.nd z (Or.inl z) (Or.inr z))) (λ _ _ _ _ _=>k0) (λ _ _ _ _ _=>(O5 rO rO bc (O 2) (b5 T.K1)))) ai)))))),?_⟩;refine⟨_,z,a,_,z,.inl (aG.of az),_,z,_,_,z,z,_,z,bZ (λ D=>?_) (λ D=>?_)⟩
 ·have D:=ge D;rw[iJ] at D;have D:xs.length<=n:=by omega
  refine⟨_,z,a,z,⟨_,aG.of az⟩,λ af cr=>?_⟩;refine km (K:=K) (a:=a) (xs:=bS xs) (fY H af λ i=>((xs.take i).map λ c=>inr c 0 255).map V.bg) (.start cr z) (λ i J _ h=>aG.of (h.1 _ _ az)) ?_ ?_
  ·rintro i _ J aj h;obtain⟨c,ak,rfl⟩:=MB aj;have cY:∀b,b=inr c 0 255->∃aY,J af=some (.lst aY)/\aY.length<sizeLine/\fY H af (λ i=>((xs.take i).map λ c=>inr c 0 255).map V.bg) (i+1) (upd J af (.lst (aY++[.bg b]))):=λ b Y=>by
    refine h.step cr (aH.refl _) ?_ ?_
    ·show((xs.take (i+1)).map λ c=>inr c 0 255).map V.bg=_;rw[eH ak,db,db,Y];rfl
    ·rw[be,be,c5];exact em ⇑1
   refine⟨z,lk ⟨_,z,_,_,z,z,_,z,bZ (λ G=>⟨_,_,z,z,cY _ ?_⟩) (λ G=>cY _ ?_)⟩⟩;·unfold inr;rw[G];rfl
   ·unfold inr;have:decide ((0:Int)<=c)=false:=by simpa using G
    rw[this];rfl
  ·rintro J ⟨G,an⟩;rw[iJ] at an;dsimp only at an;rw[fy] at an;refine⟨af,_,z,aG.of an,?_⟩;have:=k J G;unfold isText at this;rw[dO D,rs] at this;rw[ru];exact this
 ·have D:¬_:=λ B=>D (dO B);rw[iJ] at D;have:=k H (aH.refl _);unfold isText at this;rw[eA ⇑1,zL] at this;exact this
def mj (xs:List Int):Bool:=decide (xs.length<=40)&&xs.all λ n=>inr n 1 40
inductive aiI(T:e3 K am)(vs:List V)(H:aP)(Q:d7)(E:mD):Prop|mk a xs:vs=[.ref a]->H a=some (.lst (bS xs))->(∀J,aH H J->Q (.bg (mj xs)) J)->aiI T vs H Q E
def Vq:⇑7 1 T.sM (aiI T):=by
 refine bX T.sM.F Ig λ H _ _ _ h=>?_;obtain⟨a,xs,rfl,az,k⟩:=h;refine⟨z,λ _ _ _ _ _ _ _=>?_⟩;intro X;refine⟨_,(aN (a6 (rI (hX rO (dJ fJ z T.eu eK (U (O 0) ai)) (b5 T.vT) (b7 _)) (nN (dJ (Ap z) z T.vW boot_all (U (jg z Ig.nd (eN (O 0)) (hB (own:=[("number",1)]) z) (λ _ _ _ _ _=>(gF (i:=1) Ig.nd z (Or.inl z) (Or.inr z))) (λ _ _ _ _ _=>k0) (λ _ _ _ _ _=>(O5 rO rO bc (O 1) (b5 T.vT)))) ai)))))),?_⟩;refine⟨_,z,a,_,z,.inl (aG.of az),_,_,z,z,_,z,bZ (λ D=>?_) (λ D=>?_)⟩
 ·have D:=ge D;rw[iJ] at D;have D:xs.length<=40:=by omega
  refine⟨_,z,a,z,⟨_,aG.of az⟩,λ af cr=>?_⟩;refine km (K:=K) (a:=a) (xs:=bS xs) (fY H af λ i=>((xs.take i).map λ c=>inr c 1 40).map V.bg) (.start cr z) (λ i J _ h=>aG.of (h.1 _ _ az)) ?_ ?_
  ·rintro i _ J aj h;obtain⟨c,ak,rfl⟩:=MB aj;have cY:∀b,b=inr c 1 40->∃aY,J af=some (.lst aY)/\aY.length<sizeLine/\fY H af (λ i=>((xs.take i).map λ c=>inr c 1 40).map V.bg) (i+1) (upd J af (.lst (aY++[.bg b]))):=λ b Y=>by
    refine h.step cr (aH.refl _) ?_ ?_
    ·show((xs.take (i+1)).map λ c=>inr c 1 40).map V.bg=_;rw[eH ak,db,db,Y];rfl
    ·rw[be,be,c5];exact em ⇑1
   refine⟨z,lk ⟨_,z,_,_,z,z,_,z,bZ (λ G=>⟨_,_,z,z,cY _ ?_⟩) (λ G=>cY _ ?_)⟩⟩;·unfold inr;rw[G];rfl
   ·unfold inr;have:decide ((1:Int)<=c)=false:=by simpa using G
    rw[this];rfl
  ·rintro J ⟨G,an⟩;rw[iJ] at an;dsimp only at an;rw[fy] at an;refine⟨af,_,z,aG.of an,?_⟩;have:=k J G;unfold mj at this;rw[dO D,rs] at this;rw[ru];exact this
 ·have D:¬_:=λ B=>D (dO B);rw[iJ] at D;have:=k H (aH.refl _);unfold mj at this;rw[eA ⇑1,zL] at this;exact this
def nu (xs:List Int)(n:Nat):Int:=if mj xs=true then(if (xs.any λ x=>decide ((n:Int)<x))=true then -2 else 0) else -1
inductive aiJ(T:e3 K am)(vs:List V)(H:aP)(Q:d7)(E:mD):Prop|mk l a ys xs:vs=[.ref l,.ref a]->H l=some (.lst ys)->H a=some (.lst (bS xs))->(∀J,aH H J->Q (.int (nu xs ys.length)) J)->aiJ T vs H Q E
def Vr:⇑7 2 T.sN (aiJ T):=by
 refine bX T.sN.F Ii λ _ _ _ _ h=>?_;obtain⟨l,a,ys,xs,rfl,ah,az,k⟩:=h;refine⟨z,λ _ _ _ _ ab _ _=>?_⟩;intro X;refine⟨_,(aJ (cb (iO (gE (bf T.sM T.Ca (Vq T) ab (U (O 1) ai)))) (aN (a6 (b5 T.sW))) cj) (aJ (cb (gE (dJ (Yh z) z T.K_ boot_any (U (jg z Ii.nd (eN (O 1)) (hB (own:=[("number",2)]) z) (λ _ _ _ _ _=>(gF (i:=2) Ii.nd z (Or.inl z) (Or.inr z))) (λ _ _ _ _ _=>k0) (λ _ _ _ _ _=>(hX fO (O 2) (dJ (afz (K:=K) z) z T.eu eK (U (O 0) ai)) (b7 _)))) ai))) (aN (a6 (b5 T.K2))) cj) (aN (a6 bc)))),?_⟩;refine⟨_,z,a,xs,z,az,λ H1 al=>⟨_,z,?_⟩⟩;cases q:mj xs with
 |false=>have:=k H1 al;unfold nu at this;rw[q,ay ⇑0] at this;exact df this
 |true=>
  refine c7 ?_;have D:xs.length<=40:=by unfold mj at q;rw[dF] at q;exact ge q.1
  refine⟨_,z,a,z,⟨_,aG.of (al _ _ az)⟩,λ af cr=>?_⟩;refine km (K:=K) (a:=a) (xs:=bS xs) (fY H1 af λ i=>((xs.take i).map λ x=>decide ((ys.length:Int)<x)).map V.bg) (.start cr z) (λ i J _ h=>aG.of (h.1 _ _ (al _ _ az))) ?_ ?_
  ·rintro i x J aj h;obtain⟨_,ak,rfl⟩:=MB aj;refine⟨z,lk ⟨_,z,_,z,l,_,z,.inl (aG.of (h.1 _ _ (al _ _ ah))),_,_,z,z,h.step cr (aH.refl _) ?_ ?_⟩⟩
   ·show((xs.take (i+1)).map λ x=>decide ((ys.length:Int)<x)).map V.bg=_;rw[eH ak,db,db];rfl
   ·rw[be,be,c5];exact em ⇑1
  ·rintro J ⟨G,an⟩;rw[iJ] at an;dsimp only at an;rw[fy] at an;have:=k J (al.trans G);unfold nu at this;rw[q,aA z] at this;refine⟨af,_,z,aG.of an,_,z,bZ (λ aU=>?_) (λ aU=>?_)⟩
   ·rw[rt] at aU;have aU:(xs.any λ x=>decide ((ys.length:Int)<x))=true:=aU;rw[aA aU] at this;exact this
   ·rw[rt] at aU;have aU:¬(xs.any λ x=>decide ((ys.length:Int)<x))=true:=aU;rw[ay aU] at this;exact this
structure kL (H:aP)(dB:List Addr)(eI:List (List Int)):Prop where
 len:dB.length=eI.length
 at_:∀(j:Nat)(r:Addr)(xs:List Int),dB[j]?=some r->eI[j]?=some xs->H r=some (.lst (bS xs))
def kL.same (h:kL H dB eI)(k:aH H J):kL J dB eI:=⟨h.len,λ j r xs D G=>k _ _ (h.at_ j r xs D G)⟩
theorem kL.one (h:H r=some (.lst (bS xs))):kL H [r] [xs]:=⟨z,λ j _ _ D G=>by cases j with
 |zero=>cases D;cases G;exact h
 |succ j=>cases D⟩
def kL.two (h:H r=some (.lst (bS xs)))(h':H q=some (.lst (bS ys))):kL H [r,q] [xs,ys]:=⟨z,λ j _ _ D G=>by
 match j,D,G with
 |0,D,G=>cases D;cases G;exact h
 |1,D,G=>cases D;cases G;exact h'
 |n+2,D,G=>cases D⟩
def jv (n:Nat)(eI:List (List Int))(ss:List Sen):Int:=if (eI.all (isText n))=true then(if Vbtaae.makes ss=true then 0 else -4) else -1
inductive aiK:mD->Prop|mk{E}(l a:Addr)(ss:List Sen)(dB:List Addr)(eI:List (List Int))(n:Nat):ν=[.ref l,.ref a,.int (n:Int)]->gA T η l ss->ss.length<=1000->(∀s∈ss,M.cE s)-> η a=some (.lst (dB.map V.ref))->kL η dB eI->eI.length<=2->n<=4000->(∀J,aH η J->θ (.int (jv n eI ss)) J)->aiK E
def MD:⇑7 11 T.qT (aiK T):=by
 refine bX T.qT.F Ik λ H _ _ _ h=>?_;obtain⟨l,a,ss,dB,eI,n,rfl,cq,bR,ok,az,R,_,aB,k⟩:=h;refine⟨z,λ _ _ _ _ ab _ _=>?_⟩;intro X;refine⟨_,(aJ (cb (iO (gE (dJ (Ap z) z T.vW boot_all (U (jg z Ik.nd (eN (O 1)) (hB (own:=[("row",3)]) z) (λ _ _ _ _ _=>(gF (i:=3) Ik.nd z (Or.inl z) (Or.inr z))) (λ _ _ _ _ _=>k0) (λ _ _ _ _ _=>(bf T.qS T.yu (MC T) ab (U (O 3) (U (O 2) ai))))) ai)))) (aN (a6 (b5 T.sW))) cj) (aJ (cb (iO (gE (bf T.og T.sL (zd T) ab (U (O 0) ai)))) (aN (a6 (b5 T.Cy))) cj) (aN (a6 bc)))),?_⟩;refine⟨_,z,a,z,⟨_,aG.of az⟩,λ af cr=>?_⟩;refine km (K:=K) (a:=a) (xs:=dB.map V.ref) (fY H af λ i=>((eI.take i).map (isText n)).map V.bg) (.start cr z) (λ i J _ h=>aG.of (h.1 _ _ az)) ?_ ?_
 ·rintro i _ J aj h;rw[d5] at aj;cases e:dB[i]? with
  |none=>rw[e] at aj;cases aj
  |some r=>
   rw[e] at aj;cases aj;have uO:i<eI.length:=by rw[<-R.len];exact(c_.mp e).1
   have aa:=ez uO;refine⟨z,lk ⟨_,z,_,z,r,eI[i],n,z,h.1 _ _ (R.at_ i r _ e aa),aB,λ _ bh=>h.step cr bh ?_ ?_⟩⟩
   ·show((eI.take (i+1)).map (isText n)).map V.bg=_;rw[eH aa,db,db];rfl
   ·rw[be,be,c5];exact em ⇑1
 ·rintro H1 ⟨al,an⟩;rw[be,R.len] at an;dsimp only at an;rw[fy] at an;refine⟨af,_,z,aG.of an,_,z,?_⟩;rw[ru];have e:(id∘isText n)=isText n:=rfl;rw[e];cases q:eI.all (isText n) with
  |false=>have:=k H1 al;unfold jv at this;rw[q,ay ⇑0] at this;exact df this
  |true=>
   refine c7 ⟨_,z,l,ss,z,cq.same al,bR,ok,λ aE aq=>⟨_,z,?_⟩⟩;have:=k aE (al.trans aq);unfold jv at this;rw[q,aA z] at this;cases bb:Vbtaae.makes ss with
   |false=>rw[bb,ay ⇑0] at this;exact df this
   |true=>rw[bb,aA z] at this;exact c7 this
def oG (h:∀s∈ss,M.cE s):∀x∈nb ss,M.cE x.2:=M.Ro h
def aiL (h:M.cE s)(f)(b):cg f (bd b) s=cg f b s:=by
 rw[eW,M.fK,M.fK];have:=M.x0 (b:=b) (M.F6 h.aF);constructor;·rintro⟨D,G⟩;exact⟨D,(this.mp G.symm).symm⟩
 ·rintro⟨D,G⟩;exact⟨D,(this.mpr G.symm).symm⟩
def ME (h:∀s∈ss,M.cE s)(f)(b):bm (cg f (bd b)) (nb ss)=bm (cg f b) (nb ss):=M.jh λ x aa=>aiL (oG h x aa) f b
def aiM (h:∀s∈ss,M.cE s)(b):fU (nb ss) (bd b)=fU (nb ss) b:=by unfold M.fU;rw[ME h,ME h]
def aiN (h:∀s∈ss,M.cE s)(b):d3 (nb ss) (bd b)=d3 (nb ss) b:=by unfold M.d3;rw[ME h]
def MF (h:∀s∈ss,M.cE s)(q:(bm (cg f b) (nb ss)).isSome=true):isName b=true:=by obtain⟨x,aa⟩:=jy.mp q;obtain⟨D,G⟩:=M.gM aa;rw[<-(M.fK.mp G).2];exact(oG h x D).aF
def MG (h:∀s∈ss,M.cE s)(q:fU (nb ss) b=true):isName b=true:=by
 unfold M.fU at q;rw[jB] at q;rcases q with q|q
 ·exact MF h q
 ·exact MF h q
def wg (h:∀s∈ss,M.cE s)(q:d3 (nb ss) b=true):isName b=true:=MF h q
def ml:jv n eI ss=0↔(∀xs∈eI,isText n xs=true)/\Vbtaae.makes ss=true:=by
 unfold jv;constructor
 ·intro h;split at h
  ·rename_i q;split at h
   ·rename_i bb;exact⟨hq.mp q,bb⟩
   ·omega
  ·omega
 ·rintro⟨D,G⟩;rw[aA (hq.mpr D),aA G]
def Vs:jv n eI ss=0\/jv n eI ss<0:=by
 unfold jv;split
 ·split
  ·exact .inl z
  ·exact .inr ⇑0
 ·exact .inr ⇑0
def Dk (B):decide (V.int B=V.int 0)=true↔B=0:=by rw[fG];exact⟨λ h=>by injection h,λ h=>by rw[h]⟩
def fx (there:Bytes->Bool)(xs:List Int)(eI:List (List Int))(ss:List Sen):Int:=if jv 12 eI ss=0/\there (bytes xs)=false then -5 else jv 12 eI ss
inductive aiO:mD->Prop|mk{E}l a ss xs:ν=[.ref l,.ref a]->gA T η l ss->ss.length<=1000->(∀s∈ss,M.cE s)->η a=some (.lst (bS xs))->(∀J,aH η J->θ (.int (fx (fU (nb ss)) xs [xs] ss)) J)->aiO E
def Vt:⇑7 12 T.sO (aiO T):=by
 refine bX T.sO.F S_ λ H _ _ _ h=>?_;obtain⟨l,a,ss,xs,rfl,cq,bR,ok,az,k⟩:=h;refine⟨z,λ _ _ _ _ ab _ _=>?_⟩;intro X;refine⟨_,(aJ (bQ 2 S_.nd (bf T.qT T.yv (MD T) ab (U (O 0) (U (b_ (U (O 1) ai)) (U (b5 T.yG) ai))))) (aJ (cb (s1 (z8 (b9 eG (O 2) bc (b7 _)) (z7 (iO (gE (bf T.pv T.u3 (CS T) ab (U (mf T.hk T.j5 T.j6 (mg T) ab (U (O 0) ai)) (U (bf T.jp T.lg (nt T) ab (U (O 1) ai)) ai)))))))) (aN (a6 (b5 T.Cz))) cj) (aN (a6 (O 2))))),?_⟩;refine⟨_,z,_,z,dY,λ kG kH=>?_⟩;have al:aH H (upd H kG (.lst [.ref a])):=bp kH;refine⟨l,kG,ss,[a],[xs],12,z,cq.same al,bR,ok,aI,kL.one (al _ _ az),(by show 1<=2;decide),⇑0,λ aE aq=>?_⟩;have aO:=al.trans aq;refine⟨_,z,z,_,z,bZ (λ D=>?_) (λ D=>c7 ?_)⟩
 ·have D:=(Dk _).mp D;have a_:=(ml.mp D).1 xs ⇑2;refine⟨_,z,l,ss,z,cq.same aO,⇑1,λ p _ bh _ aM=>⟨_,z,a,bytes xs,z,?_,?_,λ _ ck=>⟨p,ss,_,z,aM.same ck,λ fI cm=>⟨_,z,?_⟩⟩⟩⟩
  ·rw[<-lq a_];exact bh _ _ (aO _ _ az)
  ·rw[kJ];have:=kK a_;omega
  ·rw[aiM ok];have:=k fI (aO.trans (bh.trans (ck.trans cm)));unfold fx at this;cases q:fU (nb ss) (bytes xs) with
   |false=>rw[aA ⟨D,q⟩] at this;exact df this
   |true=>rw[ay λ B=>(by rw[q] at B;cases B.2)] at this;exact c7 ⟨_,z,this⟩
 ·have D:¬_:=λ B=>D ((Dk _).mpr B);have:=k aE aO;unfold fx at this;rw[ay λ B=>D B.1] at this;exact⟨_,z,this⟩
inductive aiP:mD->Prop|mk{E}l a o ss xs dB eI:ν=[.ref l,.ref a,.ref o]->gA T η l ss->ss.length<=1000->(∀s∈ss,M.cE s)->η a=some (.lst (bS xs))->η o=some (.lst (dB.map V.ref))->kL η (a::dB) (xs::eI)->eI.length<=1->(∀J,aH η J->θ (.int (fx (d3 (nb ss)) xs (xs::eI) ss)) J)->aiP E
def MH:⇑7 12 T.qU (aiP T):=by
 refine bX T.qU.F S' λ H _ _ _ h=>?_;obtain⟨l,a,o,ss,xs,dB,eI,rfl,cq,bR,ok,az,aT,R,_,k⟩:=h;refine⟨z,λ _ _ _ _ ab _ _=>?_⟩;intro X;refine⟨_,(aJ (bQ 3 S'.nd (bf T.qT T.yv (MD T) ab (U (O 0) (U (e0 jL (b_ (U (O 1) ai)) (O 2)) (U (b5 T.yG) ai))))) (aJ (cb (s1 (z8 (b9 eG (O 3) bc (b7 _)) (z7 (iO (gE (bf T.pw T.u4 (CT T) ab (U (mf T.hk T.j5 T.j6 (mg T) ab (U (O 0) ai)) (U (bf T.jp T.lg (nt T) ab (U (O 1) ai)) ai)))))))) (aN (a6 (b5 T.Cz))) cj) (aN (a6 (O 3))))),?_⟩;refine⟨_,z,_,z,dY,λ kG kH=>?_⟩;have al:aH H (upd H kG (.lst [.ref a])):=bp kH;have alr:dB.length=eI.length:=by have:=R.len;simpa using this
 refine⟨_,z,kG,o,_,_,z,z,aI,al _ _ aT,by rw[be];exact gP (by simp;omega),λ nq v_=>?_⟩;have aq:=al.trans (bp (o:=.lst ([.ref a]++dB.map V.ref)) v_);refine⟨l,nq,ss,a::dB,xs::eI,12,z,cq.same aq,bR,ok,aI,R.same aq,by simp;omega,⇑0,λ bj jw=>?_⟩;have aO:=aq.trans jw;refine⟨_,z,z,_,z,bZ (λ D=>?_) (λ D=>c7 ?_)⟩
 ·have D:=(Dk _).mp D;have a_:=(ml.mp D).1 xs ⇑2;refine⟨_,z,l,ss,z,cq.same aO,⇑1,λ p _ bh _ aM=>⟨_,z,a,bytes xs,z,?_,?_,λ _ ck=>⟨p,ss,_,z,aM.same ck,λ fI cm=>⟨_,z,?_⟩⟩⟩⟩
  ·rw[<-lq a_];exact bh _ _ (aO _ _ az)
  ·rw[kJ];have:=kK a_;omega
  ·rw[aiN ok];have:=k fI (aO.trans (bh.trans (ck.trans cm)));unfold fx at this;cases q:d3 (nb ss) (bytes xs) with
   |false=>rw[aA ⟨D,q⟩] at this;exact df this
   |true=>rw[ay λ B=>(by rw[q] at B;cases B.2)] at this;exact c7 ⟨_,z,this⟩
 ·have D:¬_:=λ B=>D ((Dk _).mpr B);have:=k bj aO;unfold fx at this;rw[ay λ B=>D B.1] at this;exact⟨_,z,this⟩
def nv:fx there xs eI ss=0↔jv 12 eI ss=0/\there (bytes xs)=true:=by
 unfold fx;constructor
 ·intro h;split at h
  ·omega
  ·rename_i q;refine⟨h,?_⟩;cases bb:there (bytes xs) with
   |true=>rfl
   |false=>exact absurd ⟨h,bb⟩ q
 ·rintro⟨D,G⟩;rw[ay λ B=>(by rw[G] at B;cases B.2)];exact D
def pT:fx there xs eI ss=0\/fx there xs eI ss<0:=by
 unfold fx;split;·exact .inr ⇑0
 ·exact Vs
def mm (f:Nat)(xs ws:List Int)(ss:List Sen):Int:=if fx (d3 (nb ss)) xs [xs,ws] ss<0 then fx (d3 (nb ss)) xs [xs,ws] ss else if isLet (nb ss) f (cV (nb ss) (bytes xs)) (bytes ws)=true then 0 else -6
def aiQ (h:∀s∈ss,M.cE s)(aS:f=3\/f=4)(k b):isLet (nb ss) f k (bd b)=isLet (nb ss) f k b:=by
 unfold M.isLet;congr 1;funext m;congr 1;refine M.jh λ x aa=>?_;have jT:=oG h x aa;unfold M.cH;by_cases e:ag x.2=f
 ·have aB:isName (aD x.2)=true:=by
   rcases jT.aD with q|q;·omega
   ·exact q
  have:=M.x0 (b:=b) (M.F6 aB);have ao:(aD x.2==bd b)=(aD x.2==b):=by rw[eW,d_,d_];exact⟨λ B=>(this.mp B.symm).symm,λ B=>(this.mpr B.symm).symm⟩
  rw[ao]
 ·have:(ag x.2==f)=false:=by simpa using e
  rw[this];rfl
def aiR (h:∀s∈ss,M.cE s)(aS:f=3\/f=4)(q:isLet (nb ss) f k b=true):isName b=true:=by
 unfold M.isLet at q;obtain⟨m,_,hm⟩:=hS.mp q;obtain⟨x,aa⟩:=jy.mp hm;obtain⟨D,G⟩:=M.gM aa;have an:ag x.2=f/\aF x.2=m/\aD x.2=b:=by unfold M.cH at G;simpa using G
 rcases (oG h x D).aD with q|q;·omega
 ·rw[<-an.2.2];exact q
inductive aiS:mD->Prop|mk{E}(l a b:Addr)(ss:List Sen)(xs ws:List Int)(f:Nat):ν=[.ref l,.ref a,.ref b,.int (f:Int)]->gA T η l ss->ss.length<=1000->(∀s∈ss,M.cE s)-> η a=some (.lst (bS xs))->η b=some (.lst (bS ws))->(f=3\/f=4)->(∀J,aH η J->θ (.int (mm f xs ws ss)) J)->aiS E
def aiT:⇑7 13 T.vk (aiS T):=by
 refine bX T.vk.F Ip λ H _ _ _ h=>?_;obtain⟨l,a,b,ss,xs,ws,f,rfl,cq,bR,ok,az,Y,aS,k⟩:=h;refine⟨z,λ _ _ _ _ ab _ _=>?_⟩;intro X;refine⟨_,(aJ (bQ 4 Ip.nd (bf T.qU T.yw (MH T) ab (U (O 0) (U (O 1) (U (b_ (U (O 2) ai)) ai))))) (aJ (cb (b9 nR (O 4) bc (b7 _)) (aN (a6 (O 4))) cj) (aJ (bQ 5 Ip.nd (mf T.hk T.j5 T.j6 (mg T) ab (U (O 0) ai))) (aJ (cb (iO (gE (bf T.qN T.yn (Lx T) ab (U (O 5) (U (O 3) (U (bf T.ma T.px (s4 T) ab (U (O 5) (U (bf T.jp T.lg (nt T) ab (U (O 1) ai)) ai))) (U (bf T.jp T.lg (nt T) ab (U (O 2) ai)) ai))))))) (aN (a6 (b5 T.K4))) cj) (aN (a6 bc)))))),?_⟩;refine⟨_,z,_,z,_,z,dY,λ kG kH=>?_⟩;have al:aH H (upd H kG (.lst [.ref b])):=bp kH;refine⟨l,a,kG,ss,xs,[b],[ws],z,cq.same al,bR,ok,al _ _ az,aI,kL.two (al _ _ az) (al _ _ Y),(by show 1<=1;decide),λ aE gQ=>?_⟩;have aq:=al.trans gQ;refine⟨_,z,_,_,z,z,_,z,bZ (λ D=>?_) (λ D=>?_)⟩
 ·have D:=ge D;have:=k aE aq;unfold mm at this;rw[aA D] at this;exact⟨_,z,this⟩
 have D:¬_:=λ B=>D (dO B);have aX:=nv.mp (pT.resolve_right D);have hw:=ml.mp aX.1;have a_:=hw.1 xs ⇑2;have gz:=hw.1 ws ⇑2;have g3:=M.eQ (wg ok aX.2);refine⟨_,z,l,ss,z,cq.same aq,⇑1,λ p _ jw _ aM=>?_⟩;have aO:=aq.trans jw;refine⟨_,z,_,z,_,z,_,z,a,bytes xs,z,?_,?_,λ _ kM=>⟨p,ss,bd (bytes xs),z,aM.same kM,by rw[g3];exact aX.2,λ _ oH=>⟨_,z,b,bytes ws,z,?_,?_,λ _ kN=>⟨p,ss,f,_,_,z,aM.same (kM.trans (oH.trans kN)),λ g_ oI=>⟨_,z,?_⟩⟩⟩⟩⟩;·rw[<-lq a_];exact aO _ _ az
 ·rw[kJ];have:=kK a_;omega
 ·rw[<-lq gz];exact oH _ _ (kM _ _ (aO _ _ Y))
 ·rw[kJ];have:=kK gz;omega
 ·rw[aiQ ok aS,g3];have:=k g_ (aO.trans (kM.trans (oH.trans (kN.trans oI))));unfold mm at this;rw[ay D] at this;cases q:isLet (nb ss) f (cV (nb ss) (bytes xs)) (bytes ws) with
  |false=>rw[q,ay ⇑0] at this;exact df this
  |true=>rw[q,aA z] at this;exact c7 this
def tb (b):br b=bS (Vbtaae.ints b):=by unfold br bS Vbtaae.ints;rw[ht];rfl
def aiU (l m):bS (l++m)=bS l++bS m:=db
def mn (l:List Bytes):List Int:=l.flatMap λ b=>(b.length:Int)::Vbtaae.ints b
theorem wh:∀l:List Bytes,(∀b∈l,b.length<=12)->(mn l).length<=l.length * 13
 |[],_=>bG _
 |b::r,h=>by
  have:=wh r λ x aa=>h x (cu _ aa);have:=h b cn;unfold mn at *;rw[my,cX,cJ,cJ,tH];have e:(Vbtaae.ints b).length=b.length:=by unfold Vbtaae.ints;exact be _
  omega
def aiV (l)(b):mn (l++[b])=mn l++((b.length:Int)::Vbtaae.ints b):=by unfold mn;rw[tr];simp
inductive aiW(T:e3 K am)(vs:List V)(H:aP)(Q:d7)(E:mD):Prop|mk l bs:vs=[.ref l]->H l=some (.lst (bM bs))->bs.length<=2000->(∀b∈bs,b.length<=12)->(∀r J,aH H J->H r=none->J r=some (.lst (bS (Vbtaae.rows bs)))->Q (.ref r) J)->aiW T vs H Q E
def MI:⇑7 2 T.qV (aiW T):=by
 refine bX T.qV.F Ir λ H _ _ _ h=>?_;obtain⟨l,bs,rfl,ah,_,Y,k⟩:=h;refine⟨z,λ _ _ _ _ ab _ _=>?_⟩;intro X;refine⟨_,(aJ (bQ 1 Ir.nd (b_ (U (dJ fJ z T.eu eK (U (O 0) ai)) ai))) (aJ (gs f1 z (eN (O 0)) (ib 2 Ir.nd) (aJ (eY (fX hK (O 1) (U (dJ xo z T.eu eK (U (O 2) ai)) ai))) (aN (eY (fX qY (O 1) (U (bf T.qO T.yp (Ml T) ab (U (O 2) ai)) ai)))))) (aN (a6 (O 1))))),?_⟩;refine⟨_,z,l,_,z,.inl (aG.of ah),dY,λ j' pS=>?_⟩;rw[fj];have al:aH H (upd H j' (.lst [.int (bs.length:Int)])):=bp pS;refine⟨_,z,l,z,⟨_,aG.of (al _ _ ah)⟩,ha (K:=K) (a:=l) (xs:=bM bs) (λ i L J=>XL (λ k_=>L=[some (.ref l),some (.ref j'),k_]) (aH H J) (J j'=some (.lst (bS ((bs.length:Int)::mn (bs.take i))))))
  ⟨none,z,al,aI⟩ (λ i L J _ ⟨_,_,q,_⟩=>aG.of (q _ _ ah)) ?_ ?_⟩
 ·rintro i _ L J aj ⟨k_,rfl,aq,G⟩;intro A;obtain⟨b,Vu,rfl⟩:=jt aj;have als:=Y b (gc Vu);have hsz:=wh (bs.take i) λ x aa=>Y x (NS aa);have hsz:(mn (bs.take i)).length<=26000:=by refine cK hsz ?_;rw[c5];have:min i bs.length * 13<=2000 * 13:=rl _ ⇑1;omega
  refine⟨_,z,.inl ⟨z,_,aG.of G⟩,_,z,_,z,by rw[f7];exact gP ⇑1,j',_,_,z,z,G,?_,?_⟩;·rw[iJ,cJ];exact kR (by omega:_<=30000) ⇑0
  ·rw[f7];have aO:aH H (upd J j' (.lst (bS ((bs.length:Int)::mn (bs.take i))++[.int (b.length:Int)]))):=ev aq pS;refine⟨_,z,.inl ⟨z,_,aG.of aI⟩,_,z,b,z,⇑1,λ r _ bh _ MA=>?_⟩;refine⟨j',r,_,_,z,z,bh _ _ aI,MA,?_,?_⟩
   ·rw[cX,iJ,du,cJ,kQ];exact cK (by omega:_<=30000) ⇑0
   ·refine⟨_,z,ev (aO.trans bh) pS,?_⟩;rw[aI,eH Vu,aiV,tb];unfold bS;simp
 ·rintro L J ⟨k_,rfl,aq,G⟩;rw[fj,fy] at G;exact⟨_,z,k j' J aq pS G⟩
def wi (ss:List Sen)(xs:List Int):List Int:=if fx (d3 (nb ss)) xs [xs] ss<0 then[fx (d3 (nb ss)) xs [xs] ss] else 0::Vbtaae.ints (cV (nb ss) (bytes xs))
def wj (ss:List Sen)(xs:List Int):List Int:=if fx (fU (nb ss)) xs [xs] ss<0 then[fx (fU (nb ss)) xs [xs] ss] else 0::Vbtaae.rows (bF (nb ss) (bytes xs))
def pU (f:Nat)(ss:List Sen)(xs ws:List Int):List Int:=if mm f xs ws ss<0 then[mm f xs ws ss] else
 0::M.fu (M.say (nb ss) f (bytes xs) (cV (nb ss) (bytes xs)) (bytes ws))::(M.gy (M.say (nb ss) f (bytes xs) (cV (nb ss) (bytes xs)) (bytes ws)):Int)::Vbtaae.ints (y0 ss f (bytes xs) (cV (nb ss) (bytes xs)) (bytes ws))
def wk (ss:List Sen)(xs:List Int):List Int:=if fx (d3 (nb ss)) xs [xs] ss<0 then[fx (d3 (nb ss)) xs [xs] ss] else 0::Vbtaae.rows ((b' (nb ss) 11 (bytes xs)).map (·.2))
def wl (ss:List Sen)(xs:List Int):List Int:=if fx (fU (nb ss)) xs [xs] ss<0 then[fx (fU (nb ss)) xs [xs] ss] else
 0::Vbtaae.rows ((M.d4 (nb ss) λ f=>f==5).filter λ t=>(bF (nb ss) (cV (nb ss) t)).contains (bytes xs))
inductive Dl(tc:List Sen->List Int->List Int)(vs:List V)(H:aP)(Q:d7)(E:mD):Prop|mk l a ss xs:vs=[.ref l,.ref a]->gA T H l ss->ss.length<=1000->(∀s∈ss,M.cE s)->H a=some (.lst (bS xs))->(∀r J,aH H J->H r=none->J r=some (.lst (bS (tc ss xs)))->Q (.ref r) J)->Dl tc vs H Q E
def aiX:bA:=Dl T wi
def aiY:bA:=Dl T wj
def aiZ:bA:=Dl T wk
def ai0:bA:=Dl T wl
def Vv (h:∀s∈ss,M.cE s)(aa:x∈nb ss)(aS:ag x.2≠1):(aD x.2).length<=12:=by
 rcases (oG h x aa).aD with q|q;·exact absurd q aS
 ·exact rc q
def zj (h:d3 (nb ss) t=true):∃n,a7 (nb ss) 5 t=some (n,cV (nb ss) t):=by
 unfold M.d3 at h;obtain⟨x,aa⟩:=jy.mp h;have:a7 (nb ss) 5 t=some (x.1,aD x.2):=by unfold M.a7;rw[aa];rfl
 refine⟨x.1,?_⟩;unfold M.cV;rw[this]
def Vw (ok:∀s∈ss,M.cE s)(h:d3 (nb ss) t=true):(cV (nb ss) t).length<=12:=by
 unfold M.d3 at h;obtain⟨x,aa⟩:=jy.mp h;obtain⟨D,G⟩:=M.gM aa;have e:cV (nb ss) t=aD x.2:=by unfold M.cV M.a7;rw[aa];rfl
 rw[e];exact Vv ok D (by rw[(M.fK.mp G).1];decide)
def ai1:⇑7 13 T.vl (aiX T):=by
 refine bX T.vl.F Ta λ H _ _ _ h=>?_;obtain⟨l,a,ss,xs,rfl,cq,bR,ok,az,k⟩:=h;refine⟨z,λ _ _ _ _ ab _ _=>?_⟩;intro X;refine⟨_,(aJ (bQ 2 Ta.nd (bf T.qU T.yw (MH T) ab (U (O 0) (U (O 1) (U (b_ ai) ai))))) (aJ (cb (b9 nR (O 2) bc (b7 _)) (aN (a6 (b_ (U (O 2) ai)))) cj) (aN (a6 (e0 jL (b_ (U bc ai)) (bf T.qO T.yp (Ml T) ab (U (bf T.ma T.px (s4 T) ab (U (mf T.hk T.j5 T.j6 (mg T) ab (U (O 0) ai)) (U (bf T.jp T.lg (nt T) ab (U (O 1) ai)) ai))) ai))))))),?_⟩;refine⟨_,z,_,z,cQ _,λ hE uN=>?_⟩;have al:aH H (upd H hE (.lst [])):=bp uN;refine⟨l,a,hE,ss,xs,[],[],z,cq.same al,bR,ok,al _ _ az,aI,kL.one (al _ _ az),cQ _,λ _ gQ=>?_⟩;have aq:=al.trans gQ;refine⟨_,z,_,_,z,z,_,z,bZ (λ D=>?_) (λ D=>?_)⟩
 ·have D:=ge D;refine⟨_,z,dY,λ r ho=>k r _ (aq.trans (bp ho)) (aq.free ho) ?_⟩;rw[aI];unfold wi;rw[aA D];rfl
 have D:¬_:=λ B=>D (dO B);have aX:=nv.mp (pT.resolve_right D);have a_:=(ml.mp aX.1).1 xs ⇑2;have g3:=M.eQ (wg ok aX.2);have hO:=Vw ok aX.2;refine⟨dY,λ gl gK=>?_⟩;have aO:=aq.trans (bp (o:=.lst [.int 0]) gK);refine⟨_,z,l,ss,z,cq.same aO,⇑1,λ p _ bh _ aM=>⟨_,z,a,bytes xs,z,?_,?_,λ _ ck=>⟨p,ss,_,z,aM.same ck,by rw[g3];exact aX.2,λ _ cm=>⟨cV (nb ss) (bd (bytes xs)),z,by rw[g3];omega,λ r _ ei ho ab=>?_⟩⟩⟩⟩;·rw[<-lq a_];exact bh _ _ (aO _ _ az)
 ·rw[kJ];have:=kK a_;omega
 ·rw[g3] at ab;have nw:=bh.trans (ck.trans (cm.trans ei));refine⟨gl,r,_,_,z,z,nw _ _ aI,ab,by rw[du];exact gP (by simp;omega),λ q aK=>?_⟩;refine k q _ ((aO.trans nw).trans (bp aK)) ((aO.trans nw).free aK) ?_;rw[aI];unfold wi;rw[ay D,tb];rfl
def MJ (ok:∀s∈ss,M.cE s)(aS:f≠1)(k):∀b∈(b' (nb ss) f k).map (·.2),b.length<=12:=by intro b Y;obtain⟨x,aa,rfl⟩:=cd.mp Y;obtain⟨s,D,G,an⟩:=yX aa;rw[<-an];exact Vv ok (x:=(x.1,s)) D (by show ag s≠1;rw[G];exact aS)
def MK (ok:∀s∈ss,M.cE s)(ax:k.length<=12):∀b∈bF (nb ss) k,b.length<=12:=by
 intro b Y;rcases bN.mp Y with rfl|Y
 ·exact ax
 ·exact MJ ok ⇑0 k b Y
def ai2:⇑7 13 T.vm (aiY T):=by
 refine bX T.vm.F Tb λ _ _ _ _ h=>?_;obtain⟨l,a,ss,xs,rfl,cq,bR,ok,az,k⟩:=h;refine⟨z,λ _ _ _ _ ab _ _=>?_⟩;intro X;refine⟨_,(aJ (bQ 2 Tb.nd (bf T.sO T.Cc (Vt T) ab (U (O 0) (U (O 1) ai)))) (aJ (cb (b9 nR (O 2) bc (b7 _)) (aN (a6 (b_ (U (O 2) ai)))) cj) (aN (a6 (e0 jL (b_ (U bc ai)) (bf T.qV T.yx (MI T) ab (U (bf T.j4 T.l' (ox T) ab (U (mf T.hk T.j5 T.j6 (mg T) ab (U (O 0) ai)) (U (bf T.jp T.lg (nt T) ab (U (O 1) ai)) ai))) ai))))))),?_⟩;refine⟨_,z,_,z,l,a,ss,xs,z,cq,bR,ok,az,λ _ aq=>?_⟩;refine⟨_,z,_,_,z,z,_,z,bZ (λ D=>?_) (λ D=>?_)⟩
 ·have D:=ge D;refine⟨_,z,dY,λ r ho=>k r _ (aq.trans (bp ho)) (aq.free ho) ?_⟩;rw[aI];unfold wj;rw[aA D];rfl
 have D:¬_:=λ B=>D (dO B);have aX:=nv.mp (pT.resolve_right D);have a_:=(ml.mp aX.1).1 xs ⇑2;have zk:=MG ok aX.2;have g3:=M.eQ zk;refine⟨dY,λ gl gK=>?_⟩;have aO:=aq.trans (bp (o:=.lst [.int 0]) gK);refine⟨_,z,l,ss,z,cq.same aO,⇑1,λ p _ bh _ aM=>⟨_,z,a,bytes xs,z,?_,?_,λ _ ck=>⟨p,ss,_,z,aM.same ck,λ fM _ cm _ hO=>⟨fM,bF (nb ss) (bd (bytes xs)),z,hO,?_,?_,λ r _ ei ho ab=>?_⟩⟩⟩⟩;·rw[<-lq a_];exact bh _ _ (aO _ _ az)
 ·rw[kJ];have:=kK a_;omega
 ·have:=C1 ss (bd (bytes xs));omega
 ·rw[g3];exact MK ok (rc zk)
 ·rw[g3] at ab;have nw:=bh.trans (ck.trans (cm.trans ei));refine⟨gl,r,_,_,z,z,nw _ _ aI,ab,?_,λ q aK=>?_⟩
  ·rw[iJ];have bY:=wh _ (MK ok (rc zk));have gX:=C1 ss (bytes xs);have jW:(Vbtaae.rows (bF (nb ss) (bytes xs))).length=(mn (bF (nb ss) (bytes xs))).length+1:=rfl;rw[jW];exact cK (by simp;omega:_<=30000) ⇑0
  ·refine k q _ ((aO.trans nw).trans (bp aK)) ((aO.trans nw).free aK) ?_;rw[aI];unfold wj;rw[ay D];rfl
def ai3:⇑7 13 T.vn (aiZ T):=by
 refine bX T.vn.F Tc λ H _ _ _ h=>?_;obtain⟨l,a,ss,xs,rfl,cq,bR,ok,az,k⟩:=h;refine⟨z,λ _ _ _ _ ab _ _=>?_⟩;intro X;refine⟨_,(aJ (bQ 2 Tc.nd (bf T.qU T.yw (MH T) ab (U (O 0) (U (O 1) (U (b_ ai) ai))))) (aJ (cb (b9 nR (O 2) bc (b7 _)) (aN (a6 (b_ (U (O 2) ai)))) cj) (aN (a6 (e0 jL (b_ (U bc ai)) (bf T.qV T.yx (MI T) ab (U (bf T.sC T.B4 (TL T) ab (U (mf T.hk T.j5 T.j6 (mg T) ab (U (O 0) ai)) (U (b5 T.sV) (U (bf T.jp T.lg (nt T) ab (U (O 1) ai)) ai)))) ai))))))),?_⟩;refine⟨_,z,_,z,cQ _,λ hE uN=>?_⟩;have al:aH H (upd H hE (.lst [])):=bp uN;refine⟨l,a,hE,ss,xs,[],[],z,cq.same al,bR,ok,al _ _ az,aI,kL.one (al _ _ az),cQ _,λ _ gQ=>?_⟩;have aq:=al.trans gQ;refine⟨_,z,_,_,z,z,_,z,bZ (λ D=>?_) (λ D=>?_)⟩
 ·have D:=ge D;refine⟨_,z,dY,λ r ho=>k r _ (aq.trans (bp ho)) (aq.free ho) ?_⟩;rw[aI];unfold wk;rw[aA D];rfl
 have D:¬_:=λ B=>D (dO B);have aX:=nv.mp (pT.resolve_right D);have a_:=(ml.mp aX.1).1 xs ⇑2;have g3:=M.eQ (wg ok aX.2);refine⟨dY,λ gl gK=>?_⟩;have aO:=aq.trans (bp (o:=.lst [.int 0]) gK);have Vx:=MJ ok (f:=11) ⇑0 (bytes xs);have CR:=pF ss 11 (bytes xs);refine⟨_,z,l,ss,z,cq.same aO,⇑1,λ p _ bh _ aM=>⟨_,z,a,bytes xs,z,?_,?_,λ _ ck=>⟨p,ss,11,_,z,aM.same ck,λ fM _ cm _ hO=>⟨fM,(b' (nb ss) 11 (bd (bytes xs))).map (·.2),z,hO,?_,?_,λ r _ ei ho ab=>?_⟩⟩⟩⟩;·rw[<-lq a_];exact bh _ _ (aO _ _ az)
 ·rw[kJ];have:=kK a_;omega
 ·rw[g3,be];omega
 ·rw[g3];exact Vx
 ·rw[g3] at ab;have nw:=bh.trans (ck.trans (cm.trans ei));refine⟨gl,r,_,_,z,z,nw _ _ aI,ab,?_,λ q aK=>?_⟩
  ·rw[iJ];have bY:=wh _ Vx;rw[be] at bY;have jW:(Vbtaae.rows ((b' (nb ss) 11 (bytes xs)).map (·.2))).length=(mn ((b' (nb ss) 11 (bytes xs)).map (·.2))).length+1:=rfl;rw[jW];exact cK (by simp;omega:_<=30000) ⇑0
  ·refine k q _ ((aO.trans nw).trans (bp aK)) ((aO.trans nw).free aK) ?_;rw[aI];unfold wk;rw[ay D];rfl
def zl (h:t∈M.d4 (nb ss) λ f=>f==5):d3 (nb ss) t=true:=by unfold M.d4 M.l3 at h;obtain⟨x,aa,ex⟩:=cd.mp (M.k7.mp h);obtain⟨q1,bb⟩:=dX.mp aa;unfold M.d3;rw[M.uB,hS];exact⟨x,q1,M.fK.mpr ⟨↥bb,ex⟩⟩
def ML:mm f xs ws ss=0↔fx (d3 (nb ss)) xs [xs,ws] ss=0/\isLet (nb ss) f (cV (nb ss) (bytes xs)) (bytes ws)=true:=by
 unfold mm;constructor
 ·intro h;split at h
  ·omega
  ·rename_i q;split at h
   ·rename_i bb;exact⟨pT.resolve_right q,bb⟩
   ·omega
 ·rintro⟨D,G⟩;rw[ay ⇑1,aA G]
def MM:mm f xs ws ss=0\/mm f xs ws ss<0:=by
 unfold mm;split;·rename_i q;exact .inr q
 ·split
  ·exact .inl z
  ·exact .inr ⇑0
def ai4:⇑7 13 T.vo (ai0 T):=by
 refine bX T.vo.F sz λ _ _ _ _ h=>?_;obtain⟨l,a,ss,xs,rfl,cq,bR,ok,az,k⟩:=h;refine⟨z,λ _ _ _ _ ab _ _=>?_⟩;intro X;refine⟨_,(aJ (bQ 2 sz.nd (bf T.sO T.Cc (Vt T) ab (U (O 0) (U (O 1) ai)))) (aJ (cb (b9 nR (O 2) bc (b7 _)) (aN (a6 (b_ (U (O 2) ai)))) cj) (aJ (tW (i:=3) sz.nd z (Or.inr z) (mf T.hk T.j5 T.j6 (mg T) ab (U (O 0) ai))) (aJ (tW (i:=4) sz.nd z (Or.inr z) (bf T.jp T.lg (nt T) ab (U (O 1) ai))) (aJ (bQ 5 sz.nd (bf T.qM T.ym (LF T) ab (U (O 3) (U (gT (U (b5 T.mb) ai)) ai)))) (aN (a6 (e0 jL (b_ (U bc ai)) (bf T.qV T.yx (MI T) ab (U (jg z sz.nd (eN (O 5)) (hB (own:=[("thing",6)]) z) (λ _ _ _ _ _=>(gF (i:=6) sz.nd z (Or.inl z) (Or.inr z))) (λ _ _ _ _ _=>r0 (b9 (CV (K:=K) z) (O 4) (bf T.j4 T.l' (ox T) ab (U (O 3) (U (bf T.ma T.px (s4 T) ab (U (O 3) (U (O 6) ai))) ai))) z)) (λ _ _ _ _ _=>(O 6))) ai)))))))))),?_⟩;refine⟨_,z,_,z,l,a,ss,xs,z,cq,bR,ok,az,λ _ aq=>?_⟩;refine⟨_,z,_,_,z,z,_,z,bZ (λ D=>?_) (λ D=>?_)⟩
 ·have D:=ge D;refine⟨_,z,dY,λ r ho=>k r _ (aq.trans (bp ho)) (aq.free ho) ?_⟩;rw[aI];unfold wl;rw[aA D];rfl
 have D:¬_:=λ B=>D (dO B);have aX:=nv.mp (pT.resolve_right D);have a_:=(ml.mp aX.1).1 xs ⇑2;have zk:=MG ok aX.2;have g3:=M.eQ zk;refine⟨_,z,l,ss,z,cq.same aq,⇑1,λ p _ jw _ aM=>⟨_,z,a,bytes xs,z,?_,?_,λ b1 kM=>?_⟩⟩;·rw[<-lq a_];exact jw _ _ (aq _ _ az)
 ·rw[kJ];have:=kK a_;omega
 rw[g3];have bh:=aq.trans (jw.trans kM);have ra:=aM.same kM;refine⟨_,z,dY,λ tp iI=>?_⟩;have oH:aH b1 (upd b1 tp (.tup [.int 5])):=bp iI;refine⟨p,tp,ss,[5],z,ra.same oH,bR,dh.of aI,λ bk fI kN _ fZ=>?_⟩;rw[UN] at fZ;have cm:=bh.trans (oH.trans kN);have L8:=ra.same (oH.trans kN);refine⟨dY,λ gl gK=>?_⟩;have oI:aH fI (upd fI gl (.lst [.int 0])):=bp gK;have Vy:(upd fI gl (.lst [.int 0])) gl=some (.lst [.int 0]):=aI;have MN:=oI _ _ fZ;have MO:=L8.same oI;have ei:=cm.trans oI;generalize upd fI gl (.lst [.int 0])=g_ at oI Vy MN MO ei;have Mr:=Db ss λ f=>f==5;have Vz:∀i,(((M.d4 (nb ss) λ f=>f==5).take i).filter λ t=>(bF (nb ss) (cV (nb ss) t)).contains (bytes xs)).length<=ss.length:=λ i=>by refine cK (hR _ _) ?_;rw[c5];omega
 refine⟨_,z,bk,z,⟨_,aG.of MN⟩,λ af cr=>?_⟩;refine km (K:=K) (a:=bk) (xs:=bM (M.d4 (nb ss) λ f=>f==5)) (fY g_ af λ i=>bM (((M.d4 (nb ss) λ f=>f==5).take i).filter λ t=>(bF (nb ss) (cV (nb ss) t)).contains (bytes xs))) (.start cr z) (λ i J _ h=>aG.of (h.1 _ _ MN)) ?_ ?_
 ·rintro i _ J aj h;obtain⟨t,VA,rfl⟩:=jt aj;have ax:=zl (gc VA);refine⟨z,_,z,_,z,_,z,_,z,p,ss,t,z,MO.same h.1,ax,λ jO fp=>⟨p,ss,_,z,MO.same (h.1.trans fp),λ fM _ gY _ hO=>⟨fM,_,z,.inl (aG.of hO),z,TX _,_,z,?_⟩⟩⟩;have VB:=fp.trans gY;have e:eb (.str (st (bytes xs))) (bM (bF (nb ss) (cV (nb ss) t)))=(bF (nb ss) (cV (nb ss) t)).contains (bytes xs):=Lz _ _;have VC:=eH VA;cases q:(bF (nb ss) (cV (nb ss) t)).contains (bytes xs) with
  |true=>
   rw[q] at e;have ao:(if false=true then !eb (.str (st (bytes xs))) (bM (bF (nb ss) (cV (nb ss) t))) else eb (.str (st (bytes xs))) (bM (bF (nb ss) (cV (nb ss) t))))=true:=by rw[e];rfl
   rw[ao];refine df ⟨_,z,h.step cr VB ?_ ?_⟩
   ·show bM _=_;rw[VC,lw,pE];congr 1;rw[g4,q];rfl
   ·rw[fj];have:=Vz i;exact em ⇑1
  |false=>
   rw[q] at e;have ao:(if false=true then !eb (.str (st (bytes xs))) (bM (bF (nb ss) (cV (nb ss) t))) else eb (.str (st (bytes xs))) (bM (bF (nb ss) (cV (nb ss) t))))=false:=by rw[e];rfl
   rw[ao];refine c7 (h.skip VB ?_);rw[VC,lw,pE,g4,q];simp;rfl
 ·rintro jO ⟨jW,qu⟩;rw[fj] at qu;dsimp only at qu;rw[fy] at qu;have MP:=Vz (M.d4 (nb ss) λ f=>f==5).length;rw[fy] at MP;have VD:∀b∈(M.d4 (nb ss) λ f=>f==5).filter λ t=>(bF (nb ss) (cV (nb ss) t)).contains (bytes xs),b.length<=12:=λ b Y=>rc (wg ok (zl (dX.mp Y).1));refine⟨af,_,z,qu,⇑1,VD,λ r _ iS ho ab=>?_⟩;refine⟨gl,r,_,_,z,z,iS _ _ (jW _ _ Vy),ab,?_,λ q aK=>?_⟩
  ·rw[iJ];have bY:=wh _ VD;show 1+((mn _).length+1)<=_;exact cK (by omega:_<=30000) ⇑0
  ·have zm:=ei.trans (jW.trans iS);refine k q _ (zm.trans (bp aK)) (zm.free aK) ?_;rw[aI];unfold wl;rw[ay D];rfl
inductive ai5:mD->Prop|mk{E}(l a b:Addr)(ss:List Sen)(xs ws:List Int)(f:Nat):ν=[.ref l,.ref a,.ref b,.int (f:Int)]->gA T η l ss->ss.length<=1000->(∀s∈ss,M.cE s)-> η a=some (.lst (bS xs))->η b=some (.lst (bS ws))->(f=3\/f=4)->(∀r J,aH η J->η r=none->J r=some (.lst (bS (pU f ss xs ws)))->θ (.ref r) J)->ai5 E
def MQ (bR:ss.length<=1000){t k w:Bytes}(W:M.World ss)(aS:f=3\/f=4)(ax:a7 (nb ss) 5 t=some (n,k))(ah:M.hi (nb ss) f k w=some m6):(y0 ss f t k w).length<=2000:=by
 obtain⟨_,_,_,_,e⟩:=M.Sd W aS ax ah;unfold y0;rw[e];refine cK (zb _) ?_;have:=pF ss 2 k;have G:((b' (⇑6 ss) 2 k).map (·.1)).length<=ss.length:=by rw[be];exact this
 simp only[cX,kQ];have an:(if 0<M.lineNo (M.say (⇑6 ss) f t k w) then[M.lineNo (M.say (⇑6 ss) f t k w)] else[]).length<=1:=by split<;>simp
 omega
def VE:⇑7 14 T.sP (ai5 T):=by
 refine bX T.sP.F u2 λ _ _ _ _ h=>?_;obtain⟨l,a,b,ss,xs,ws,f,rfl,cq,bR,ok,az,Y,aS,k⟩:=h;refine⟨z,λ _ _ _ _ ab _ _=>?_⟩;intro X;refine⟨_,(aJ (bQ 4 u2.nd (bf T.vk T.Jo (aiT T) ab (U (O 0) (U (O 1) (U (O 2) (U (O 3) ai)))))) (aJ (cb (b9 nR (O 4) bc (b7 _)) (aN (a6 (b_ (U (O 4) ai)))) cj) (aJ (bQ 5 u2.nd (mf T.hk T.j5 T.j6 (mg T) ab (U (O 0) ai))) (aJ (bQ 6 u2.nd (bf T.jp T.lg (nt T) ab (U (O 1) ai))) (aJ (bQ 7 u2.nd (bf T.jp T.lg (nt T) ab (U (O 2) ai))) (aJ (bQ 8 u2.nd (bf T.held T.yo (LJ T) ab (U (O 5) (U (O 6) (U (bf T.j4 T.l' (ox T) ab (U (O 5) (U (bf T.ma T.px (s4 T) ab (U (O 5) (U (O 6) ai))) ai))) (U (O 3) (U (O 7) ai))))))) (aN (a6 (e0 jL (b_ (U bc (U (cZ (O 8) z) (U (cZ (O 8) z) ai)))) (bf T.reasons T.I8 (af0 T) ab (U (O 5) (U (O 6) (U (O 3) (U (O 7) (U (O 8) ai))))))))))))))),?_⟩;refine⟨_,z,_,z,_,z,_,z,l,a,b,ss,xs,ws,f,z,cq,bR,ok,az,Y,aS,λ _ aq=>?_⟩;refine⟨_,z,_,_,z,z,_,z,bZ (λ D=>?_) (λ D=>?_)⟩
 ·have D:=ge D;refine⟨_,z,dY,λ r ho=>k r _ (aq.trans (bp ho)) (aq.free ho) ?_⟩;rw[aI];unfold pU;rw[aA D];rfl
 have D:¬_:=λ B=>D (dO B);obtain⟨Uj,MR⟩:=ML.mp (MM.resolve_right D);have aX:=nv.mp Uj;have hw:=ml.mp aX.1;have a_:=hw.1 xs ⇑2;have gz:=hw.1 ws ⇑2;have g3:=M.eQ (wg ok aX.2);have ai6:=M.eQ (aiR ok aS MR);have W:=M.n8 ok hw.2;obtain⟨n,Dm⟩:=zj aX.2;obtain⟨m6,q8⟩:∃m6,M.hi (nb ss) f (cV (nb ss) (bytes xs)) (bytes ws)=some m6:=by rw[<-M.m1] at MR;exact jy.mp MR
 refine⟨_,z,l,ss,z,cq.same aq,⇑1,λ p _ jw _ aM=>⟨_,z,a,bytes xs,z,?_,?_,λ _ kM=>⟨_,z,b,bytes ws,z,?_,?_,λ _ oH=>?_⟩⟩⟩;·rw[<-lq a_];exact jw _ _ (aq _ _ az)
 ·rw[kJ];have:=kK a_;omega
 ·rw[<-lq gz];exact kM _ _ (jw _ _ (aq _ _ Y))
 ·rw[kJ];have:=kK gz;omega
 rw[g3,ai6];have pN:=aM.same (kM.trans oH);have ck:=aq.trans (jw.trans (kM.trans oH));refine⟨_,z,_,z,_,z,_,z,_,z,p,ss,bytes xs,z,pN,aX.2,λ _ kN=>⟨p,ss,_,z,pN.same kN,λ fM _ oI _ hO=>⟨_,z,_,z,p,fM,ss,bytes xs,_,bytes ws,f,z,pN.same (kN.trans oI),hO,aS,λ q jO zn _ aK=>?_⟩⟩⟩;have ai7:=pN.same (kN.trans (oI.trans zn));have fp:=ck.trans (kN.trans (oI.trans zn));obtain⟨dx,MS⟩:=aK;refine⟨_,z,q,_,dx,_,_,z,MS,T.jq,T.vO,LI _ _ _,_,z,q,_,dx,_,_,z,MS,T.jq,T.yB,TY _ _ _,i8,λ gl gK=>?_⟩;have MT:aH jO (upd jO gl (.lst [.int 0,.int (M.fu (M.say (nb ss) f (bytes xs) (cV (nb ss) (bytes xs)) (bytes ws))),.int (M.gy (M.say (nb ss) f (bytes xs) (cV (nb ss) (bytes xs)) (bytes ws)):Int)])):=bp gK;refine⟨_,z,_,z,_,z,_,z,_,z,p,q,ss,f,n,m6,bytes xs,_,bytes ws,z,ai7.same MT,bR,W,aS,Dm,q8,⟨dx,MT _ _ MS⟩,λ r _ iS ho ab=>?_⟩;refine⟨gl,r,_,_,z,z,iS _ _ aI,ab,?_,λ bb nn=>?_⟩
 ·rw[du];have:=MQ bR W aS Dm q8;show 3+_<=_;exact gP ⇑1
 ·have zm:=fp.trans (MT.trans iS);refine k bb _ (zm.trans (bp nn)) (zm.free nn) ?_;rw[aI];unfold pU;rw[ay D,tb];rfl
open Vbtaae
theorem MU (f:Bytes->Option (Nat×Bytes)):∀(n:Nat)(k:Bytes),(climb f n k).length<=n
 |0,_=>bG _
 |n+1,k=>by
  unfold climb;cases f k with
  |none=>exact cQ _
  |some x=>have:=MU f n x.2;show(climb f n x.2).length+1<=n+1;omega
def ai8 (h:wayTo f n a b=some w):w.length<=n+1:=by
 unfold wayTo at h;split at h;·cases h;exact cQ _
 ·dsimp only at h;split at h
  ·cases h;rw[cX,be,kQ];have D:=List.takeWhile_prefix (λ x:Nat×Bytes=>x.2 !=b) (l:=climb f n a);have G:=D.length_le;have an:=MU f n a;omega
  ·cases h
def ai9 (h:torn ls=some l):l.length<=ls.length+5:=by
 unfold torn at h;obtain⟨x,_,h⟩:=mq h;split at h
 ·rename_i fc aQ Ux;obtain⟨a,_,h⟩:=mq h;obtain⟨c,_,rfl⟩:=lv.mp h;refine cK (zb _) ?_;simp only[cJ,be,c5,lx];have:∀k,(chain ls k).length<=ls.length+2:=λ k=>by unfold chain;rw[cJ];have:=MU (overOf ls) (ls.length+1) k;omega
  have:=this aQ;omega
 ·cases h
def wm (h:pair k j o=some c):c.2.length<=2:=by unfold pair at h;obtain⟨_,_,rfl⟩:=lv.mp h;exact bG _
def VF {n k j:Nat}{a b:Bytes}{c:Nat×List Nat}(h:((wayTo f n a b).map λ w=>(k,sortNums (j::w)))=some c):c.2.length<=n+2:=by obtain⟨w,hw,rfl⟩:=lv.mp h;refine cK (zb _) ?_;have:=ai8 hw;rw[cJ];omega
def aja (h:clashAt ls j s=some c):c.2.length<=ls.length+10:=by
 unfold clashAt at h;dsimp only at h;split at h;·cases h;simp
 split at h;·cases h;simp
 split at h;·cases h;simp
 split at h
 ·rename_i x e;cases h;cases s<;>dsimp only at e
  case under|inside=>
   split at e
   ·cases e;simp
   ·have:=VF e;omega
  all_goals first|(have:=wm e;omega)|cases e
 ·obtain⟨l,ah,rfl⟩:=lv.mp h;have:=ai9 ah;rw[cX,kQ] at this;show l.length<=_;omega
theorem VG:∀(r b:Lines)(c:Nat×List Nat),clashFrom b r=some c->c.2.length<=b.length+r.length+10
 |[],b,c,h=>by cases h
 |x::r,b,c,h=>by
  unfold clashFrom at h;split at h;·rename_i e;cases h;have:=aja e;rw[cJ];omega
  ·have:=VG r _ c h;rw[cX,kQ] at this;rw[cJ];omega
def VH (h:clash l=some c):c.2.length<=l.length+10:=by have:=VG _ _ c h;rw[M.kr] at this;simp at this;omega
def cnt (ss:List Sen)(p:Nat->Bool):Nat:=((nb ss).filter λ x=>p (ag x.2)).length
def VI (ss)(p):(d4 (nb ss) p).length<=cnt ss p:=by
 unfold M.d4 M.l3 cnt;have D:(sortB (((nb ss).filter λ x=>p (ag x.2)).map λ x=>aF x.2)).Nodup:=(M.pm _).imp λ {_ _} h=>λ B=>by rw[B,M.qx] at h;cases h
 have:=oL D (λ x aa=>M.k7.mp aa);rw[be] at this;exact this
theorem filter_mono {bO:Type}{p q:bO->Bool}(h:∀x,p x=true->q x=true):∀l:List bO,(l.filter p).length<=(l.filter q).length
 |[]=>bG _
 |x::r=>by
  have:=filter_mono h r;rw[g4,g4];cases a:p x with
  |true=>rw[h x a];simp;omega
  |false=>cases q x<;>simp<;>omega
def Dn (ss)(f)(k):(dW (nb ss) f k).length<=cnt ss λ g=>g==f:=by
 unfold M.dW cnt;have D:(sortB ((((nb ss).filter λ x=>ag x.2==f&&(bF (nb ss) k).contains (aF x.2)).map λ x=>aD x.2))).Nodup:=(M.pm _).imp λ {_ _} h=>λ B=>by rw[B,M.qx] at h;cases h
 have:=oL D (λ x aa=>M.k7.mp aa);rw[be] at this;refine cK this (filter_mono (λ x h=>?_) _);rw[dF] at h;exact h.1
def ajb (ss):cnt ss (λ f=>f==1||f==2)+cnt ss (λ f=>f==5)+(cnt ss (λ f=>f==3)+cnt ss (λ f=>f==4))<=ss.length:=by
 unfold cnt;rw[<-ii ss];have key:∀l:Lines,(l.filter λ x=>ag x.2==1||ag x.2==2).length+(l.filter λ x=>ag x.2==5).length+((l.filter λ x=>ag x.2==3).length+(l.filter λ x=>ag x.2==4).length)<=l.length:=by
  intro l;induction l with
  |nil=>exact bG _
  |cons x r ih=>
   rw[g4,g4,g4,g4,cJ];by_cases D:ag x.2=1;·simp[D];omega
   ·by_cases G:ag x.2=2
    ·simp[G];omega
    ·by_cases an:ag x.2=3
     ·simp[an];omega
     ·by_cases aU:ag x.2=4
      ·simp[aU];omega
      ·by_cases bY:ag x.2=5
       ·simp[bY];omega
       ·simp[D,G,an,aU,bY];omega
 exact key (nb ss)
def ajc (h:x+y<=n):4 * (x * y)<=n * n:=by
 have D:4 * (x * y)<=(x+y) * (x+y):=by
  have:∀a b:Nat,a<=b->4 * (a * b)<=(a+b) * (a+b):=by
   intro a b sd;obtain⟨d,rfl⟩:=Nat.exists_eq_add_of_le sd;have ap:4 * (a * (a+d))+d * d=(a+(a+d)) * (a+(a+d)):=by simp only[Nat.mul_add,tH,Eb d a];omega
   omega
  rcases Nat.le_total x y with q|q;·exact this x y q
  ·have:=this y x q;rw[Eb x y,zS x y];exact this
 exact cK D (Nat.mul_le_mul h h)
def ajd (ss)(k):(iB (nb ss) k).length<=2+(cnt ss (λ f=>f==3)+cnt ss (λ f=>f==4)):=by unfold M.iB;rw[cJ,cX,be,be];have:=Dn ss 3 k;have:=Dn ss 4 k;omega
def aje (ss)(t k):(jk (nb ss) t k).length<=2+(cnt ss (λ f=>f==3)+cnt ss (λ f=>f==4)):=by
 unfold M.jk;rw[cJ,cX,cX,be,be];have:=Dn ss 3 k;have:=Dn ss 4 k;cases a7 (nb ss) 11 t with
 |none=>simp;omega
 |some u=>simp;omega
def VJ (h:ss.length<=n):4 * (hH (nb ss)).length<=(n+2) * (n+2):=by
 unfold M.hH;rw[cX];have D:=s' (iB (nb ss)) (2+(cnt ss (λ f=>f==3)+cnt ss (λ f=>f==4))) (d4 (nb ss) λ f=>f==1||f==2) (λ x _=>ajd ss x);have G:=s' (λ t=>jk (nb ss) t (cV (nb ss) t)) (2+(cnt ss (λ f=>f==3)+cnt ss (λ f=>f==4))) (d4 (nb ss) λ f=>f==5) (λ x _=>aje ss x _);have an:=VI ss λ f=>f==1||f==2;have aU:=VI ss λ f=>f==5;have bY:=ajb ss;have gX:=rl (2+(cnt ss (λ f=>f==3)+cnt ss (λ f=>f==4))) an;have m0:=rl (2+(cnt ss (λ f=>f==3)+cnt ss (λ f=>f==4))) aU;have jW:(cnt ss (λ f=>f==1||f==2)+cnt ss (λ f=>f==5))+(2+(cnt ss (λ f=>f==3)+cnt ss (λ f=>f==4)))<=n+2:=by omega
 have qu:=ajc jW;rw[tH] at qu;omega
def Do (h:∀s∈l,M.cE s):(shownAll l).length<=l.length * 64:=by unfold shownAll;refine s' _ 64 l λ s au=>?_;have:=Vk (h s au);rw[cX,kQ];omega
def VK (ok:∀s∈ss,M.cE s)(aa:x∈nb ss)(h:ag x.2=f)(aS:f≠1):isName (aD x.2)=true:=by
 rcases (oG ok x aa).aD with q|q;·omega
 ·exact q
def MV (ok:∀s∈ss,M.cE s)(aS:f≠1)(h:a7 (nb ss) f k=some x):isName x.2=true:=by unfold M.a7 at h;obtain⟨_,aC,rfl⟩:=lv.mp h;obtain⟨D,G⟩:=M.gM aC;exact VK ok D (M.fK.mp G).1 aS
def Dp (ok:∀s∈ss,M.cE s)(aS:f≠1)(h:w∈dW (nb ss) f k):isName w=true:=by unfold M.dW at h;obtain⟨_,aa,rfl⟩:=cd.mp (M.k7.mp h);obtain⟨D,G⟩:=dX.mp aa;rw[dF] at G;exact VK ok D ↥G.1 aS
def VL (ok:∀s∈ss,M.cE s)(h:b∈d4 (nb ss) p):isName b=true:=by unfold M.d4 M.l3 at h;obtain⟨x,aa,rfl⟩:=cd.mp (M.k7.mp h);exact(oG ok x (dX.mp aa).1).aF
def VM (ok:∀s∈ss,M.cE s)(t k p): -1000000000<=M.fu (M.hG (nb ss) t k p)/\M.fu (M.hG (nb ss) t k p)<=1000000000:=by
 cases e:M.hG (nb ss) t k p with
 |none=>exact⟨⇑0,⇑0⟩
 |some x=>
  have aa:x∈nb ss:=by
   unfold M.hG at e;cases ap:bm (cH 9 t p) (nb ss) with
   |some y=>rw[ap] at e;cases e;exact(M.gM ap).1
   |none=>rw[ap] at e;unfold M.eR at e;obtain⟨_,_,hm⟩:=mq ↥e;exact(M.gM hm).1
  exact⟨(oG ok x aa).lo,(oG ok x aa).aj⟩
def VN (b): -1000000000<=truth b/\truth b<=1000000000:=by cases b<;>exact⟨⇑0,⇑0⟩
def mo:(-1000000000:Int)<=1/\(1:Int)<=1000000000:=⟨⇑0,⇑0⟩
def zo (ok:∀s∈ss,M.cE s):∀s∈hH (nb ss),M.cE s:=by
 intro s au;unfold M.hH at au;rcases eJ.mp au with au|au
 ·obtain⟨k,ax,au⟩:=ro.mp au;have y1:=VL ok ax;unfold M.iB at au;rcases bN.mp au with rfl|au
  ·cases e:a7 (nb ss) 2 k with
   |none=>exact⟨y1,.inl z,mo.1,mo.2⟩
   |some x=>exact⟨y1,.inr (MV ok ⇑0 e),mo.1,mo.2⟩
  ·rcases eJ.mp au with au|au
   ·obtain⟨a,az,rfl⟩:=cd.mp au;exact⟨y1,.inr (Dp ok ⇑0 az),mo.1,mo.2⟩
   ·obtain⟨a,az,rfl⟩:=cd.mp au;exact⟨y1,.inr (Dp ok ⇑0 az),mo.1,mo.2⟩
 ·obtain⟨t,a_,au⟩:=ro.mp au;have g3:=VL ok a_;have ax:=zl a_;obtain⟨_,Dm⟩:=zj ax;unfold M.jk at au;rcases bN.mp au with rfl|au
  ·exact⟨g3,.inr (MV ok (f:=5) ⇑0 Dm),mo.1,mo.2⟩
  ·rcases eJ.mp au with au|au
   ·obtain⟨a,az,rfl⟩:=cd.mp au;exact⟨g3,.inr (Dp ok ⇑0 az),(VN _).1,(VN _).2⟩
   ·rcases eJ.mp au with au|au
    ·obtain⟨a,az,rfl⟩:=cd.mp au;exact⟨g3,.inr (Dp ok ⇑0 az),(VM ok _ _ _).1,(VM ok _ _ _).2⟩
    ·cases e:a7 (nb ss) 11 t with
     |none=>rw[e] at au;cases au
     |some x=>rw[e] at au;rw[dL.mp au];exact⟨g3,.inr (MV ok ⇑0 e),mo.1,mo.2⟩
def iK (s:State)(a)(p)(r)(k:Unit->State×List Int):guarded s ((a,p)::r) k=if p=true then(s,[a]) else guarded s r k:=by unfold guarded;rw[io];cases p<;>rfl
def pV (s:State)(k:Unit->State×List Int):guarded s [] k=k ():=rfl
def Dq:guarded s [noText 12 xs,noWorld s,(-5,!there (bytes xs))] k=if fx there xs [xs] s<0 then(s,[fx there xs [xs] s]) else k ():=by
 unfold noText noWorld;rw[iK,iK,iK,pV];unfold fx jv;have e:[xs].all (isText 12)=isText 12 xs:=by simp
 rw[e];cases isText 12 xs<;>cases makes s<;>cases there (bytes xs)<;>rfl
def VO:guarded s [noText 12 xs,noText 12 ws,noWorld s,(-5,!there (bytes xs)),(-6,!VP)] k=
  if fx there xs [xs,ws] s<0 then(s,[fx there xs [xs,ws] s]) else if VP=true then k () else(s,[-6]):=by
 unfold noText noWorld;rw[iK,iK,iK,iK,iK,pV];unfold fx jv;have e:[xs,ws].all (isText 12)=(isText 12 xs&&isText 12 ws):=by simp
 rw[e];cases isText 12 xs<;>cases isText 12 ws<;>cases makes s<;>cases there (bytes xs)<;>cases VP<;>rfl
def Dr (ss:State)(xs):noThing (⇑6 ss) xs=(-5,!d3 (nb ss) (bytes xs)):=by unfold noThing;rw[<-M.Rq];cases kindOf (⇑6 ss) (bytes xs)<;>rfl
def zp (ss:State)(xs):kindName (⇑6 ss) xs=cV (nb ss) (bytes xs):=by unfold kindName M.cV;rw[M.uu];rfl
def MW (ss:State)(xs):step ss (.kind xs)=(ss,wi ss xs):=by show guarded ss [noText 12 xs,noWorld ss,noThing (⇑6 ss) xs] (λ _=>(ss,0::Vbtaae.ints (kindName (⇑6 ss) xs)))=_;rw[Dr,Dq,zp];unfold wi;split<;>rfl
def MX (h:¬fx there xs eI ss<0):makes ss=true:=(ml.mp (nv.mp (pT.resolve_right h)).1).2
def MY (ok:∀s∈ss,M.cE s)(xs):step ss (.chain xs)=(ss,wj ss xs):=by
 show guarded ss [noText 12 xs,noWorld ss,(-5,!isKind (⇑6 ss) (bytes xs))] (λ _=>(ss,0::rows ((chain (⇑6 ss) (bytes xs)).map λ y=>y.2)))=_;rw[M.F5];have:=Dq (s:=ss) (there:=fU (nb ss)) (xs:=xs) (k:=λ _=>(ss,0::rows ((chain (⇑6 ss) (bytes xs)).map λ y=>y.2)));refine this.trans ?_;unfold wj;split;·rfl
 ·rename_i h;have W:=M.n8 ok (MX h);rw[M.A3 W.calm.lY];rfl
def MZ (ok:∀s∈ss,M.cE s)(xs):step ss (.place xs)=(ss,wk ss xs):=by
 show guarded ss [noText 12 xs,noWorld ss,noThing (⇑6 ss) xs] (λ _=>(ss,0::rows ((climb (placeOf (⇑6 ss)) (ss.length+1) (bytes xs)).map λ y=>y.2)))=_;rw[Dr,Dq];unfold wk;split;·rfl
 ·rename_i h;have W:=M.n8 ok (MX h);have e:climb (placeOf (⇑6 ss)) (ss.length+1) (bytes xs)=b' (nb ss) 11 (bytes xs):=by rw[M.FQ,<-M.A0 (ls:=nb ss) W.calm.Rb];rw[ii]
  rw[e]
def M0 (ok:∀s∈ss,M.cE s)(xs):step ss (.things xs)=(ss,wl ss xs):=by
 show guarded ss [noText 12 xs,noWorld ss,(-5,!isKind (⇑6 ss) (bytes xs))] (λ _=>(ss,0::rows ((thingsIn (⇑6 ss)).filter λ t=>match kindOf (⇑6 ss) t with
    |some x=>(chain (⇑6 ss) x.2).any λ y=>y.2==bytes xs
    |none=>false)))=_
 rw[M.F5];have:=Dq (s:=ss) (there:=fU (nb ss)) (xs:=xs) (k:=λ _=>(ss,0::rows ((thingsIn (⇑6 ss)).filter λ t=>match kindOf (⇑6 ss) t with
    |some x=>(chain (⇑6 ss) x.2).any λ y=>y.2==bytes xs
    |none=>false)))
 refine this.trans ?_;unfold wl;split;·rfl
 ·rw[M.RS];congr 3;refine List.filter_congr λ t a_=>?_;obtain⟨_,aB⟩:=zj (ss:=ss) (zl a_);rw[M.uu];have aB:=aB;rw[aB];show((chain (⇑6 ss) (cV (nb ss) t)).any λ y=>y.2==bytes xs)=_;rw[M.aao (⇑6 ss) (cV (nb ss) t) (λ m=>m==bytes xs)];rw[eW];simp
def ajf (h:M.gj ls t k a=some x):x∈ls/\(ag x.2=6\/ag x.2=7\/ag x.2=8):=by
 unfold M.gj at h;have aS:∀{f:Nat}{m:Bytes}{y:Nat×Sen},bm (cH f m a) ls=some y->y∈ls/\ag y.2=f:=λ {f m y} q=>by obtain⟨D,G⟩:=M.gM q;unfold M.cH at G;rw[dF] at G;exact⟨D,↥G.1⟩
 have a1:∀{f:Nat}{y:Nat×Sen},M.eR ls f k a=some y->y∈ls/\ag y.2=f:=λ {f y} q=>by unfold M.eR at q;obtain⟨m,_,hm⟩:=mq q;exact aS hm
 cases ap:bm (cH 6 t a) ls with
 |some y=>rw[ap] at h;cases h;exact⟨(aS ap).1,.inl (aS ap).2⟩
 |none=>
  rw[ap] at h;cases ao:M.eR ls 7 k a with
  |some y=>rw[ao] at h;cases h;exact⟨(a1 ao).1,.inr (.inl (a1 ao).2)⟩
  |none=>rw[ao] at h;have h:=h;exact⟨(a1 h).1,.inr (.inr (a1 h).2)⟩
def ajg (h:ag s=6\/ag s=7\/ag s=8):truth (bv s==1)=bv s:=by
 cases s with
 |told a b y=>cases y<;>rfl
 |every a b y=>cases y<;>rfl
 |usual a b y=>cases y<;>rfl
 |_=>simp[M.ag] at h
def ajh (ls)(t k a):truth (M.fu (M.gj ls t k a)==1)=M.fu (M.gj ls t k a):=by
 cases e:M.gj ls t k a with
 |none=>rfl
 |some x=>exact ajg (ajf e).2
def M1 (ok:∀s∈ss,M.cE s)(xs ws):step ss (.is xs ws)=(ss,pU 3 ss xs ws):=by
 show guarded ss [noText 12 xs,noText 12 ws,noWorld ss,noThing (⇑6 ss) xs,(-6,(canBe (⇑6 ss) (kindName (⇑6 ss) xs) (bytes ws)).isNone)] (λ _=>
   (ss,0::truth (quality (⇑6 ss) (bytes xs) (kindName (⇑6 ss) xs) (bytes ws)).1::((quality (⇑6 ss) (bytes xs) (kindName (⇑6 ss) xs) (bytes ws)).2.1:Int)::
    Vbtaae.ints (reasons (⇑6 ss) (bytes xs) (kindName (⇑6 ss) xs) (quality (⇑6 ss) (bytes xs) (kindName (⇑6 ss) xs) (bytes ws)).2.2 (canBe (⇑6 ss) (kindSaid (⇑6 ss) (quality (⇑6 ss) (bytes xs) (kindName (⇑6 ss) xs) (bytes ws)).2.2 (kindName (⇑6 ss) xs)) (bytes ws)))))=_
 have e:(canBe (⇑6 ss) (kindName (⇑6 ss) xs) (bytes ws)).isNone= !isLet (nb ss) 3 (cV (nb ss) (bytes xs)) (bytes ws):=by rw[M.A_,zp,<-M.m1];cases M.hi (nb ss) 3 (cV (nb ss) (bytes xs)) (bytes ws)<;>rfl
 rw[Dr,e,VO];unfold pU mm;by_cases D:fx (d3 (nb ss)) xs [xs,ws] ss<0;·rw[aA D,aA D,aA D]
 ·rw[ay D,ay D];by_cases G:isLet (nb ss) 3 (cV (nb ss) (bytes xs)) (bytes ws)=true
  ·rw[aA G,aA G,ay ⇑0];have W:=M.n8 ok (MX D);have q:=M.RW (ls:=⇑6 ss) W.calm.lY M.n2 (bytes xs) (cV (nb ss) (bytes xs)) (bytes ws);rw[zp,q,M.A_];rw[ajh];rfl
  ·rw[ay G,ay G,aA ⇑0]
def M3 (ok:∀s∈ss,M.cE s)(xs ws):step ss (.number xs ws)=(ss,pU 4 ss xs ws):=by
 show guarded ss [noText 12 xs,noText 12 ws,noWorld ss,noThing (⇑6 ss) xs,(-6,(hasNumber (⇑6 ss) (kindName (⇑6 ss) xs) (bytes ws)).isNone)] (λ _=>
   (ss,0::(numberOf (⇑6 ss) (bytes xs) (kindName (⇑6 ss) xs) (bytes ws)).1::((numberOf (⇑6 ss) (bytes xs) (kindName (⇑6 ss) xs) (bytes ws)).2.1:Int)::
    Vbtaae.ints (reasons (⇑6 ss) (bytes xs) (kindName (⇑6 ss) xs) (numberOf (⇑6 ss) (bytes xs) (kindName (⇑6 ss) xs) (bytes ws)).2.2 (hasNumber (⇑6 ss) (kindSaid (⇑6 ss) (numberOf (⇑6 ss) (bytes xs) (kindName (⇑6 ss) xs) (bytes ws)).2.2 (kindName (⇑6 ss) xs)) (bytes ws)))))=_
 have e:(hasNumber (⇑6 ss) (kindName (⇑6 ss) xs) (bytes ws)).isNone= !isLet (nb ss) 4 (cV (nb ss) (bytes xs)) (bytes ws):=by rw[M.A',zp,<-M.m1];cases M.hi (nb ss) 4 (cV (nb ss) (bytes xs)) (bytes ws)<;>rfl
 rw[Dr,e,VO];unfold pU mm;by_cases D:fx (d3 (nb ss)) xs [xs,ws] ss<0;·rw[aA D,aA D,aA D]
 ·rw[ay D,ay D];by_cases G:isLet (nb ss) 4 (cV (nb ss) (bytes xs)) (bytes ws)=true
  ·rw[aA G,aA G,ay ⇑0];have q:=M.RX (⇑6 ss) (bytes xs) (cV (nb ss) (bytes xs)) (bytes ws);rw[zp,q,M.A'];rfl
  ·rw[ay G,ay G,aA ⇑0]
theorem M4 (ss:State)(xs):step ss (.text xs)=if isText 4000 xs=true then(match read (bytes xs) with
   |.error n=>(ss,[0,1,(n:Int)])
   |.ok l=>if 40<l.length then(ss,[0,2,(l.length:Int)]) else(l,[0,0,(l.length:Int)])) else(ss,[-1]):=by
 unfold Vbtaae.step;dsimp only;unfold noText;rw[iK,pV];cases isText 4000 xs<;>rfl
theorem M5 (ss:State)(xs):step ss (.add xs)=if isText 100 xs=true then(match readLine (bytes xs) with
   |none=>(ss,[-3])
   |some x=>if 40<=ss.length then(ss,[-7]) else(ss++[x],[0,((ss.length+1:Nat):Int)])) else(ss,[-1]):=by
 unfold Vbtaae.step;dsimp only;unfold noText;rw[iK,pV];cases isText 100 xs<;>rfl
def M6 (ss:State)(n):step ss (.cut n)=if nu [n] ss.length<0 then(ss,[nu [n] ss.length]) else(ss.eraseIdx (n.toNat - 1),[0,(ss.length:Int) - 1]):=by
 unfold Vbtaae.step;dsimp only;rw[iK,iK,pV];unfold nu mj;have e:([n].all λ n=>inr n 1 40)=inr n 1 40:=by simp
 have ao:([n].any λ x=>decide ((ss.length:Int)<x))=decide ((ss.length:Int)<n):=by simp
 rw[e,ao];cases inr n 1 40<;>cases decide ((ss.length:Int)<n)<;>rfl
theorem M7 (ss:State)(n m):step ss (.swap n m)=if nu [n,m] ss.length<0 then(ss,[nu [n,m] ss.length]) else((match ss[n.toNat - 1]?,ss[m.toNat - 1]? with
    |some x,some y=>(ss.set (n.toNat - 1) y).set (m.toNat - 1) x
    |_,_=>ss),[0]):=by
 unfold Vbtaae.step;dsimp only;rw[iK,iK,pV];unfold nu mj;have e:([n,m].all λ n=>inr n 1 40)=(inr n 1 40&&inr m 1 40):=by simp
 have ao:([n,m].any λ x=>decide ((ss.length:Int)<x))=(decide ((ss.length:Int)<n)||decide ((ss.length:Int)<m)):=by simp
 rw[e,ao];cases inr n 1 40&&inr m 1 40<;>cases decide ((ss.length:Int)<n)||decide ((ss.length:Int)<m)<;>rfl
def M8 (ss:State):step ss .normal=if makes ss=true then(ss,0::Vbtaae.ints (normalText ss)) else(ss,[-4]):=by unfold Vbtaae.step;unfold noWorld;rw[iK,pV];cases makes ss<;>rfl
theorem step_same (ss:State)(xs):step ss (.same xs)=if jv 4000 [xs] ss<0 then(ss,[jv 4000 [xs] ss]) else(match read (bytes xs) with
   |.error n=>(ss,[0,2,(n:Int)])
   |.ok l=>if makes l=true then(ss,[0,truth (normalText l==normalText ss)]) else(ss,[0,3])):=by
 unfold Vbtaae.step;dsimp only;unfold noText noWorld;rw[iK,iK,pV];unfold jv;have e:[xs].all (isText 4000)=isText 4000 xs:=by simp
 rw[e];cases isText 4000 xs<;>cases makes ss<;>rfl
theorem M9 (ss:State)(xs):step ss (.alone xs)=if mj xs=true then(ss,match clash (some_ ss xs) with
    |some x=>[0,(x.1:Int),truth (makes (some_ ss xs))]
    |none=>[0,0,truth (makes (some_ ss xs))]) else(ss,[-1]):=by
 unfold Vbtaae.step;dsimp only;rw[iK,pV];unfold mj;cases decide (xs.length<=40)&&xs.all λ n=>inr n 1 40<;>rfl
def Kept (ss:State):Prop:=(∀s∈ss,M.cE s)/\ss.length<=40
def VQ (h:Vbtaae.read b=.ok l):M.l4 b=l.map some:=by
 rcases M.m7 b with⟨ss,D,G⟩|⟨i,_,_,G⟩;·rw[G] at h;cases h;exact D
 ·rw[G] at h;cases h
def VR (k:Kept ss)(xs):Kept (step ss (.text xs)).1:=by
 rw[M4];split
 ·cases e:Vbtaae.read (bytes xs) with
  |error n=>exact k
  |ok l=>
   dsimp only;split;·exact k
   ·exact⟨M.Sh (VQ e),by show l.length<=40;omega⟩
 ·exact k
def aji (k:Kept ss)(xs):Kept (step ss (.add xs)).1:=by
 rw[M5];split
 ·cases e:readLine (bytes xs) with
  |none=>exact k
  |some x=>
   dsimp only;split;·exact k
   ·refine⟨λ s au=>?_,by show(ss++[x]).length<=40;rw[cX,kQ];omega⟩;rcases eJ.mp au with h|h
    ·exact k.1 s h
    ·rw[dL.mp h];exact M.RG e
 ·exact k
def ajj (k:Kept ss)(n):Kept (step ss (.cut n)).1:=by
 rw[M6];split;·exact k
 ·refine⟨λ s au=>k.1 s (List.mem_of_mem_eraseIdx au),?_⟩;have:=List.length_eraseIdx_le ss (n.toNat - 1);exact cK this k.2
def ajk (k:Kept ss)(n m):Kept (step ss (.swap n m)).1:=by
 rw[M7];split;·exact k
 ·dsimp only;split
  ·rename_i x y aa aC;refine⟨λ s au=>?_,by rw[p3,p3];exact k.2⟩;rcases Nx au with h|h
   ·rcases Nx h with h|h
    ·exact k.1 s h
    ·rw[h];exact k.1 y (gc aC)
   ·rw[h];exact k.1 x (gc aa)
  ·exact k
def Ds {ss:State}(ok:∀s∈ss,M.cE s)(h:makes ss=true):normalText ss=shownAll (hH (nb ss)):=M.abJ (M.n8 ok h).calm
def VS (ok:∀s∈ss,M.cE s)(ah:ss.length<=1000):(shownAll (hH (nb ss))).length<=16064064:=by have D:=Do (zo ok);have G:=VJ ah;omega
def VT (k:Kept ss):(shownAll (hH (nb ss))).length<=30000:=by have D:=Do (zo k.1);have G:=VJ k.2;omega
theorem ajl (ok:∀s∈ss,M.cE s):∀c:Call,(match c with
  |.text _|.add _|.cut _|.swap _ _=>True
  |_=>(step ss c).1=ss):=by
 intro c;cases c with
 |text _=>trivial
 |add _=>trivial
 |cut _=>trivial
 |swap _ _=>trivial
 |clash=>rfl
 |lacking=>rfl
 |makes=>rfl
 |text_=>rfl
 |normal=>show(step ss .normal).1=ss;rw[M8];split<;>rfl
 |kind xs=>show(step ss (.kind xs)).1=ss;rw[MW]
 |chain xs=>show(step ss (.chain xs)).1=ss;rw[MY ok]
 |is xs ws=>show(step ss (.is xs ws)).1=ss;rw[M1 ok]
 |number xs ws=>show(step ss (.number xs ws)).1=ss;rw[M3 ok]
 |place xs=>show(step ss (.place xs)).1=ss;rw[MZ ok]
 |things xs=>show(step ss (.things xs)).1=ss;rw[M0 ok]
 |same xs=>
  show(step ss (.same xs)).1=ss;rw[step_same];split;·rfl
  ·cases Vbtaae.read (bytes xs) with
   |error n=>rfl
   |ok l=>dsimp only;split<;>rfl
 |alone xs=>show(step ss (.alone xs)).1=ss;rw[M9];split<;>rfl
def ajm (k:Kept ss)(c:Call):Kept (step ss c).1:=by
 have h:=ajl k.1 c;cases c with
 |text xs=>exact VR k xs
 |add xs=>exact aji k xs
 |cut n=>exact ajj k n
 |swap n m=>exact ajk k n m
 |_=>dsimp only at h;rw[h];exact k
def td (b):(Vbtaae.ints b).length=b.length:=by unfold Vbtaae.ints;exact be _
def M_ (h:∀b∈l,b.length<=12)(ah:l.length<=100):(rows l).length<=2000:=by have:=wh l h;show(mn l).length+1<=2000;omega
def ajn (k:Kept ss)(c:Call):(step ss c).2.length<=40000:=by
 cases c with
 |text xs=>
  rw[M4];split
  ·cases e:Vbtaae.read (bytes xs) with
   |error n=>simp
   |ok l=>dsimp only;split<;>simp
  ·simp
 |add xs=>
  rw[M5];split
  ·cases e:readLine (bytes xs) with
   |none=>simp
   |some x=>dsimp only;split<;>simp
  ·simp
 |cut n=>rw[M6];split<;>simp
 |swap n m=>rw[M7];split<;>simp
 |clash=>
  show(match clash ss with|some x=>0::(x.1:Int)::Vbtaae.ints x.2|none=>[0,0]).length<=_;cases e:clash ss with
  |none=>simp
  |some x=>have:=VH e;have:=k.2;simp[td];omega
 |lacking=>show((0:Int)::Vbtaae.ints (lacking ss)).length<=_;rw[cJ,td];unfold lacking;rw[be];have:=hR (λ x:Nat×Sen=> !founded (⇑6 ss) x.2) (⇑6 ss);rw[M.kr] at this;have:=k.2;omega
 |makes=>show[0,truth (makes ss)].length<=_;simp
 |text_=>show((0:Int)::Vbtaae.ints (shownAll ss)).length<=_;rw[cJ,td];have:=Do k.1;have:=k.2;omega
 |normal=>
  rw[M8];split
  ·rename_i h;rw[cJ,td,Ds k.1 h];have:=VT k;omega
  ·simp
 |kind xs=>
  rw[MW];unfold wi;split;·simp
  ·rename_i h;rw[cJ,td];have:=Vw k.1 (nv.mp (pT.resolve_right h)).2;omega
 |chain xs=>
  rw[MY k.1];unfold wj;split;·simp
  ·rename_i h;rw[cJ];have D:=MK k.1 (rc (MG k.1 (nv.mp (pT.resolve_right h)).2));have G:=C1 ss (bytes xs);have:=M_ D (by have:=k.2;omega);omega
 |is xs ws=>
  rw[M1 k.1];unfold pU;split;·simp
  ·rename_i h;rw[cJ,cJ,cJ,td];obtain⟨D,G⟩:=ML.mp (MM.resolve_right h);obtain⟨an,aU⟩:=nv.mp D;obtain⟨n,aB⟩:=zj aU;rw[<-M.m1] at G;obtain⟨m6,q8⟩:=jy.mp G;have:=MQ (by have:=k.2;omega) (M.n8 k.1 (ml.mp an).2) (.inl z) aB q8;omega
 |number xs ws=>
  rw[M3 k.1];unfold pU;split;·simp
  ·rename_i h;rw[cJ,cJ,cJ,td];obtain⟨D,G⟩:=ML.mp (MM.resolve_right h);obtain⟨an,aU⟩:=nv.mp D;obtain⟨n,aB⟩:=zj aU;rw[<-M.m1] at G;obtain⟨m6,q8⟩:=jy.mp G;have:=MQ (by have:=k.2;omega) (M.n8 k.1 (ml.mp an).2) (.inr z) aB q8;omega
 |place xs=>
  rw[MZ k.1];unfold wk;split;·simp
  ·rw[cJ];have D:=MJ k.1 (f:=11) ⇑0 (bytes xs);have G:=pF ss 11 (bytes xs);have:=M_ D (by have:=k.2;rw[be];omega);omega
 |things xs=>
  rw[M0 k.1];unfold wl;split;·simp
  ·rw[cJ];have G:=Db ss λ f=>f==5;have an:=hR (λ t=>(bF (nb ss) (cV (nb ss) t)).contains (bytes xs)) (d4 (nb ss) λ f=>f==5);have:=M_ (l:=(d4 (nb ss) λ f=>f==5).filter λ t=>(bF (nb ss) (cV (nb ss) t)).contains (bytes xs)) (λ b Y=>rc (wg k.1 (zl (dX.mp Y).1))) (by have:=k.2;omega);omega
 |same xs=>
  rw[step_same];split;·simp
  ·cases Vbtaae.read (bytes xs) with
   |error n=>simp
   |ok l=>dsimp only;split<;>simp
 |alone xs=>
  rw[M9];split
  ·show(match clash (some_ ss xs) with|some x=>[0,(x.1:Int),truth (makes (some_ ss xs))]|none=>[0,0,truth (makes (some_ ss xs))]).length<=_;cases clash (some_ ss xs)<;>simp
  ·simp
theorem VU (c:Nat):∀b:Bytes,((split c b).map λ l=>l.length+1).sum=b.length+1
 |[]=>rfl
 |d::r=>by
  have ih:=VU c r;by_cases h:d=c
  ·subst h;rw[M.qw,bU,oT,ih,cJ];show 0+1+_=_;omega
  ·cases e:split c r with
   |nil=>exact absurd e (M.k6 c r)
   |cons x y=>rw[e] at ih;rw[M.pi h e,bU,oT];rw[bU,oT] at ih;rw[cJ,cJ];omega
def ajo (h:readLine b=some s):3<=b.length:=by
 by_cases Y:b.getLast? =some 46
 ·rcases M.F' Y with⟨D,_⟩|⟨aV,sh,D,G,an⟩
  ·rw[D] at h;cases h
  ·have hm:=gc G;have ajp:=Mv (p:=λ(sh:Nat×Int×List Bytes)=>M.hF sh.2.2 ((split 32 b.dropLast).map bd)) G;have bR:sh.2.2.length=((split 32 b.dropLast).map bd).length:=by have:M.hF sh.2.2 ((split 32 b.dropLast).map bd)=true:=ajp;unfold M.hF at this;rw[dF] at this;exact ge this.1
   have aU:∀sh∈M.c9,3<=sh.2.2.length:=by decide+kernel
   have bY:=aU sh hm;have gX:=M.split_len 32 b.dropLast;rw[be] at bR;rw[zD] at gX;omega
 ·rw[M.Ga Y] at h;cases h
theorem VV {bO:Type}(f:bO->Nat)(m:Nat):∀l:List bO,(∀x∈l,m<=f x)->l.length * m<=(l.map f).sum
 |[],_=>by simp
 |x::r,h=>by have:=VV f m r λ y aC=>h y (cu _ aC);have:=h x cn;rw[bU,oT,cJ,tH];omega
def ajq (Y:b.length<=4000)(h:Vbtaae.read b=.ok l):l.length<=1000:=by
 have ar:=VQ h;unfold M.l4 M.c3 at ar;have au:=VU 10 b;obtain⟨ls,x,ta⟩:∃ls x,split 10 b=ls++[x]:=by
  rcases ri (split 10 b) with B|⟨l,x,B⟩;·exact absurd B (M.k6 _ _)
  ·exact⟨l,x,by rw[B,wA]⟩
 rw[ta] at ar au;rw[DK,DL] at ar;rw[db,List.sum_append] at au;have aa:x.isEmpty=true:=by
  cases q:x.isEmpty with
  |true=>rfl
  |false=>
   rw[q,ay ⇑0] at ar;have:(none:Option Sen)∈l.map some:=by rw[<-ar];simp
   obtain⟨_,_,B⟩:=cd.mp this;cases B
 rw[aa,aA z,hr] at ar;have fw:l.length=ls.length:=by have:=congrArg List.length ar;simpa using this.symm
 have aU:=VV (λ l:Bytes=>l.length+1) 4 ls λ y aC=>by
  obtain⟨i,aj⟩:=jz aC;have:(ls.map readLine)[i]?=some (readLine y):=by rw[d5,aj];rfl
  rw[ar,d5] at this;cases e:l[i]? with
  |none=>rw[e] at this;cases this
  |some s=>
   rw[e] at this;have:readLine y=some s:=by have:=eV this;exact this.symm
   have:=ajo this;omega
 have:(List.map (λ l:Bytes=>l.length+1) [x]).sum≥1:=by simp
 omega
structure ey (T:e3 K am)(H:aP)(d dx av:Addr)(ss:List Sen):Prop where
 obj:H d=some (.ins T.e2 dx [("lines",.ref av)])
 lst:gA T H av ss
 kept:Kept ss
def VW (H J:aP)(d av:Addr):Prop:=∀b u,H b=some u->b≠d->b≠av->J b=some u
def ey.same {T:e3 K am}(h:ey T H d dx av ss)(k:aH H J):ey T J d dx av ss:=⟨k _ _ h.obj,h.lst.same k,h.kept⟩
def ajr (k:aH H J)(d av):VW H J d av:=λ b u e _ _=>k b u e
def gb (H:aP)(d dx av:Addr)(ss:List Sen)(c:Vbtaae.Call)(Q:d7):Prop:=∀r ka J,VW H J d av->ey T J d dx ka (step ss c).1->(ka=av\/H ka=none)->H r=none->J r=some (.lst (bS (step ss c).2))->Q (.ref r) J
def gb.plain {T:e3 K am}(k:gb T H d dx av ss c Q)(af:ey T H d dx av ss)(e:step ss c=(ss,tc)):∀r J,aH H J->H r=none->J r=some (.lst (bS tc))->Q (.ref r) J:=λ r J s aX D=>by
 refine k r av J (ajr s d av) ?_ (.inl z) aX ?_;·rw[e];exact af.same s
 ·rw[e];exact D
def gb.row {T:e3 K am}(k:gb T H d dx av ss c Q)(af:ey T H d dx av ss)(s:aH H J)(e:step ss c=(ss,tc)):∀r,J r=none->Q (.ref r) (upd J r (.lst (bS tc))):=λ r aX=>k.plain af e r _ (s.trans (bp aX)) (s.free aX) aI
inductive ajs:mD->Prop|mk{E}d dx av a ss xs:ν=[.ref d,.ref a]->ey T η d dx av ss->η a=some (.lst (bS xs))->gb T η d dx av ss (.kind xs) θ->ajs E
def ajt:⇑7 14 T.vD (ajs T):=by refine bX T.vD.F aev λ _ _ _ _ h=>?_;obtain⟨d,dx,av,a,ss,xs,rfl,af,az,k⟩:=h;refine⟨z,λ _ _ _ _ ab _ _=>?_⟩;intro X;refine⟨_,(aN (a6 (bf T.vl T.Jp (ai1 T) ab (U (cZ (O 0) z) (U (O 1) ai))))),?_⟩;have ax:=af.kept;refine⟨_,z,d,_,dx,_,_,z,af.obj,T.cI,T.fF,z,_,z,av,a,ss,xs,z,af.lst,by have:=ax.2;omega,ax.1,az,?_⟩;exact k.plain af (MW ss xs)
inductive aju:mD->Prop|mk{E}d dx av a ss xs:ν=[.ref d,.ref a]->ey T η d dx av ss->η a=some (.lst (bS xs))->gb T η d dx av ss (.chain xs) θ->aju E
def ajv:⇑7 14 T.vE (aju T):=by refine bX T.vE.F aew λ _ _ _ _ h=>?_;obtain⟨d,dx,av,a,ss,xs,rfl,af,az,k⟩:=h;refine⟨z,λ _ _ _ _ ab _ _=>?_⟩;intro X;refine⟨_,(aN (a6 (bf T.vm T.Jq (ai2 T) ab (U (cZ (O 0) z) (U (O 1) ai))))),?_⟩;have ax:=af.kept;refine⟨_,z,d,_,dx,_,_,z,af.obj,T.cI,T.fF,z,_,z,av,a,ss,xs,z,af.lst,by have:=ax.2;omega,ax.1,az,?_⟩;exact k.plain af (MY ax.1 xs)
inductive ajw:mD->Prop|mk{E}d dx av a ss xs:ν=[.ref d,.ref a]->ey T η d dx av ss->η a=some (.lst (bS xs))->gb T η d dx av ss (.place xs) θ->ajw E
def ajx:⇑7 14 T.vH (ajw T):=by refine bX T.vH.F aez λ _ _ _ _ h=>?_;obtain⟨d,dx,av,a,ss,xs,rfl,af,az,k⟩:=h;refine⟨z,λ _ _ _ _ ab _ _=>?_⟩;intro X;refine⟨_,(aN (a6 (bf T.vn T.Jr (ai3 T) ab (U (cZ (O 0) z) (U (O 1) ai))))),?_⟩;have ax:=af.kept;refine⟨_,z,d,_,dx,_,_,z,af.obj,T.cI,T.fF,z,_,z,av,a,ss,xs,z,af.lst,by have:=ax.2;omega,ax.1,az,?_⟩;exact k.plain af (MZ ax.1 xs)
inductive ajy:mD->Prop|mk{E}d dx av a ss xs:ν=[.ref d,.ref a]->ey T η d dx av ss->η a=some (.lst (bS xs))->gb T η d dx av ss (.things xs) θ->ajy E
def ajz:⇑7 14 T.vI (ajy T):=by refine bX T.vI.F aeA λ _ _ _ _ h=>?_;obtain⟨d,dx,av,a,ss,xs,rfl,af,az,k⟩:=h;refine⟨z,λ _ _ _ _ ab _ _=>?_⟩;intro X;refine⟨_,(aN (a6 (bf T.vo T.Js (ai4 T) ab (U (cZ (O 0) z) (U (O 1) ai))))),?_⟩;have ax:=af.kept;refine⟨_,z,d,_,dx,_,_,z,af.obj,T.cI,T.fF,z,_,z,av,a,ss,xs,z,af.lst,by have:=ax.2;omega,ax.1,az,?_⟩;exact k.plain af (M0 ax.1 xs)
inductive ajA:mD->Prop|mk{E}d dx av a b ss xs ws:ν=[.ref d,.ref a,.ref b]->ey T η d dx av ss->η a=some (.lst (bS xs))->η b=some (.lst (bS ws))->gb T η d dx av ss (.is xs ws) θ->ajA E
def ajB:⇑7 15 T.vF (ajA T):=by refine bX T.vF.F aex λ _ _ _ _ h=>?_;obtain⟨d,dx,av,a,b,ss,xs,ws,rfl,af,az,Y,k⟩:=h;refine⟨z,λ _ _ _ _ ab _ _=>?_⟩;intro X;refine⟨_,(aN (a6 (bf T.sP T.Cd (VE T) ab (U (cZ (O 0) z) (U (O 1) (U (O 2) (U (b5 T.sS) ai))))))),?_⟩;have ax:=af.kept;refine⟨_,z,d,_,dx,_,_,z,af.obj,T.cI,T.fF,z,_,z,_,z,av,a,b,ss,xs,ws,3,z,af.lst,by have:=ax.2;omega,ax.1,az,Y,.inl z,?_⟩;exact k.plain af (M1 ax.1 xs ws)
inductive ajC:mD->Prop|mk{E}d dx av a b ss xs ws:ν=[.ref d,.ref a,.ref b]->ey T η d dx av ss->η a=some (.lst (bS xs))->η b=some (.lst (bS ws))->gb T η d dx av ss (.number xs ws) θ->ajC E
def ajD:⇑7 15 T.vG (ajC T):=by refine bX T.vG.F aey λ _ _ _ _ h=>?_;obtain⟨d,dx,av,a,b,ss,xs,ws,rfl,af,az,Y,k⟩:=h;refine⟨z,λ _ _ _ _ ab _ _=>?_⟩;intro X;refine⟨_,(aN (a6 (bf T.sP T.Cd (VE T) ab (U (cZ (O 0) z) (U (O 1) (U (O 2) (U (b5 T.sT) ai))))))),?_⟩;have ax:=af.kept;refine⟨_,z,d,_,dx,_,_,z,af.obj,T.cI,T.fF,z,_,z,_,z,av,a,b,ss,xs,ws,4,z,af.lst,by have:=ax.2;omega,ax.1,az,Y,.inr z,?_⟩;exact k.plain af (M3 ax.1 xs ws)
inductive ajE:mD->Prop|mk{E}d dx av ss:ν=[.ref d]->ey T η d dx av ss->gb T η d dx av ss .clash θ->ajE E
def ajF:⇑7 10 T.vy (ajE T):=by
 refine bX T.vy.F Tg λ _ _ _ _ h=>?_;obtain⟨d,dx,av,ss,rfl,af,k⟩:=h;refine⟨z,λ _ _ _ _ ab _ _=>?_⟩;intro X;refine⟨_,(aJ (bQ 1 Tg.nd (bf T.qP T.yq (L9 T) ab (U (cZ (O 0) z) ai))) (aN (a6 (mE (b9 fO (dJ fJ z T.eu eK (U (O 1) ai)) bc (b7 _)) (e0 jL (b_ (U bc ai)) (O 1)) (b_ (U bc (U bc ai))))))),?_⟩;have ax:=af.kept;have te:=ax.2;refine⟨_,z,d,_,dx,_,_,z,af.obj,T.cI,T.fF,z,av,ss,z,af.lst,⇑1,ax.1,λ cl _ al _ fC=>?_⟩;refine⟨_,z,cl,_,z,.inl (aG.of fC),_,_,z,z,_,z,bZ (λ D=>?_) (λ D=>?_)⟩
 ·rw[du] at D;have D:=ge D;cases e:Vbtaae.clash ss with
  |none=>rw[e] at D;simp[j_] at D
  |some c=>
   rw[e] at fC;refine⟨dY,λ gl gK=>⟨_,z,gl,cl,_,_,z,z,aI,bw fC (cy fC gK),?_,λ r ab=>?_⟩⟩
   ·rw[du];have:=VH e;show 1+(c.2.length+1)<=_;exact gP ⇑1
   ·have ae:step ss .clash=(ss,0::(c.1:Int)::Vbtaae.ints c.2):=by show(ss,match Vbtaae.clash ss with|some x=>0::(x.1:Int)::Vbtaae.ints x.2|none=>[0,0])=_;rw[e]
    have:=k.row af (al.trans (bp gK)) ae r ab;have ao:[V.int 0]++br (j_ (some c))=bS (0::(c.1:Int)::Vbtaae.ints c.2):=by rw[tb];rfl
    rw[ao];exact this
 ·rw[du] at D;have D:¬_:=λ B=>D (dO B);cases e:Vbtaae.clash ss with
  |some c=>rw[e] at D;exact absurd (by simp[j_]) D
  |none=>
   have ae:step ss .clash=(ss,[0,0]):=by show(ss,match Vbtaae.clash ss with|some x=>0::(x.1:Int)::Vbtaae.ints x.2|none=>[0,0])=_;rw[e]
   exact⟨hv,λ r ab=>k.row af al ae r ab⟩
inductive ajG:mD->Prop|mk{E}d dx av ss:ν=[.ref d]->ey T η d dx av ss->gb T η d dx av ss .lacking θ->ajG E
def ajH:⇑7 8 T.vz (ajG T):=by
 refine bX T.vz.F aer λ H _ _ _ h=>?_;obtain⟨d,dx,av,ss,rfl,af,k⟩:=h;refine⟨z,λ _ _ _ _ ab _ _=>?_⟩;intro X;refine⟨_,(aN (a6 (e0 jL (b_ (U bc ai)) (bf T.sD T.B5 (TS T) ab (U (cZ (O 0) z) ai))))),?_⟩;have ax:=af.kept;have te:=ax.2;refine⟨dY,λ gl gK=>?_⟩;have al:aH H (upd H gl (.lst [.int 0])):=bp gK;refine⟨_,z,d,_,dx,_,_,z,al _ _ af.obj,T.cI,T.fF,z,av,ss,z,af.lst.same al,⇑1,λ r _ aq _ ab=>⟨gl,r,_,_,z,z,aq _ _ aI,ab,?_,λ q aK=>?_⟩⟩
 ·rw[du,<-M.Bb];unfold Vbtaae.lacking;rw[be];have:=hR (λ x:Nat×Sen=> !Vbtaae.founded (⇑6 ss) x.2) (⇑6 ss);rw[M.kr] at this;show 1+_<=_;exact gP ⇑1
 ·have ae:step ss .lacking=(ss,0::Vbtaae.ints (M.m2 ss)):=by rw[<-M.Bb];rfl
  have ao:[V.int 0]++br (M.m2 ss)=bS (0::Vbtaae.ints (M.m2 ss)):=by rw[tb];rfl
  rw[ao];exact k.row af (al.trans aq) ae q aK
inductive ajI:mD->Prop|mk{E}d dx av ss:ν=[.ref d]->ey T η d dx av ss->gb T η d dx av ss .makes θ->ajI E
def ajJ:⇑7 11 T.vA (ajI T):=by
 refine bX T.vA.F aes λ _ _ _ _ h=>?_;obtain⟨d,dx,av,ss,rfl,af,k⟩:=h;refine⟨z,λ _ _ _ _ ab _ _=>?_⟩;intro X;refine⟨_,(aN (a6 (b_ (U bc (U (mE (gE (bf T.og T.sL (zd T) ab (U (cZ (O 0) z) ai))) bc bc) ai))))),?_⟩;have ax:=af.kept;have te:=ax.2;refine⟨_,z,d,_,dx,_,_,z,af.obj,T.cI,T.fF,z,av,ss,z,af.lst,⇑1,ax.1,λ _ al=>⟨_,z,?_⟩⟩;have ae:step ss .makes=(ss,[0,Vbtaae.truth (Vbtaae.makes ss)]):=rfl;cases e:Vbtaae.makes ss with
 |true=>rw[e] at ae;exact df ⟨hv,λ r ab=>k.row af al ae r ab⟩
 |false=>rw[e] at ae;exact c7 ⟨hv,λ r ab=>k.row af al ae r ab⟩
inductive ajK:mD->Prop|mk{E}d dx av ss:ν=[.ref d]->ey T η d dx av ss->gb T η d dx av ss .text_ θ->ajK E
def ajL:⇑7 4 T.vB (ajK T):=by
 refine bX T.vB.F aet λ H _ _ _ h=>?_;obtain⟨d,dx,av,ss,rfl,af,k⟩:=h;refine⟨z,λ _ _ _ _ ab _ _=>?_⟩;intro X;refine⟨_,(aN (a6 (e0 jL (b_ (U bc ai)) (bf T.py T.vp (Dj T) ab (U (cZ (O 0) z) ai))))),?_⟩;have ax:=af.kept;have te:=ax.2;have jm:=Do ax.1;refine⟨dY,λ gl gK=>?_⟩;have al:aH H (upd H gl (.lst [.int 0])):=bp gK;refine⟨_,z,d,_,dx,_,_,z,al _ _ af.obj,T.cI,T.fF,z,av,ss,z,af.lst.same al,ax.1,gP ⇑1,λ r _ aq _ ab=>⟨gl,r,_,_,z,z,aq _ _ aI,ab,?_,λ q aK=>?_⟩⟩;·rw[du];show 1+_<=_;exact gP ⇑1
 ·have ae:step ss .text_=(ss,0::Vbtaae.ints (shownAll ss)):=rfl;have ao:[V.int 0]++br (shownAll ss)=bS (0::Vbtaae.ints (shownAll ss)):=by rw[tb];rfl
  rw[ao];exact k.row af (al.trans aq) ae q aK
inductive ajM:mD->Prop|mk{E}d dx av ss:ν=[.ref d]->ey T η d dx av ss->gb T η d dx av ss .normal θ->ajM E
def ee.M' {T:e3 K am}(h:ee T.da H0 H l ss):gA T H l ss:=h.ex
def ajN:⇑7 11 T.vC (ajM T):=by
 refine bX T.vC.F aeu λ _ _ _ _ h=>?_;obtain⟨d,dx,av,ss,rfl,af,k⟩:=h;refine⟨z,λ _ _ _ _ ab _ _=>?_⟩;intro X;refine⟨_,(aJ (cb (iO (gE (bf T.og T.sL (zd T) ab (U (cZ (O 0) z) ai)))) (aN (a6 (b_ (U (b5 T.Cy) ai)))) cj) (aN (a6 (e0 jL (b_ (U bc ai)) (bf T.py T.vp (Dj T) ab (U (bf T.qR T.yt (Md T) ab (U (cZ (O 0) z) ai)) ai)))))),?_⟩;have ax:=af.kept;have te:=ax.2;refine⟨_,z,d,_,dx,_,_,z,af.obj,T.cI,T.fF,z,av,ss,z,af.lst,⇑1,ax.1,λ H1 al=>⟨_,z,?_⟩⟩;have ae:=M8 ss;cases e:Vbtaae.makes ss with
 |false=>rw[e,ay ⇑0] at ae;exact df ⟨dY,λ r ab=>k.row af al ae r ab⟩
 |true=>
  rw[e,aA z,Ds ax.1 e] at ae;refine c7 ⟨dY,λ gl gK=>?_⟩;have gQ:aH H1 (upd H1 gl (.lst [.int 0])):=bp gK;have aq:=al.trans gQ;have W:=M.n8 ax.1 e;have hsz:=VT ax;refine⟨_,z,d,_,dx,_,_,z,aq _ _ af.obj,T.cI,T.fF,z,av,ss,z,af.lst.same aq,⇑1,W.calm.lY,λ r _ R=>⟨r,_,z,R.M',zo ax.1,cK hsz ⇑0,λ de _ bh _ ab=>⟨gl,de,_,_,z,z,bh _ _ (R.base _ _ aI),ab,?_,λ q aK=>?_⟩⟩⟩;·rw[du];show 1+_<=_;exact cK (by omega:_<=40000) ⇑0
  ·have ao:[V.int 0]++br (shownAll (M.hH (nb ss)))=bS (0::Vbtaae.ints (shownAll (M.hH (nb ss)))):=by rw[tb];rfl
   rw[ao];exact k.row af (aq.trans (R.base.trans bh)) ae q aK
def i3.kE:∀{ss:List Sen},i3 aZ H l (ss.map some) vs->∃as,vs=as.map V.ref/\dg aZ H as ss:=by
 intro ss h;have key:∀(ss:List Sen)(vs:List V),vs.length=ss.length->(∀(j:Nat)(v:V)(s:Sen),vs[j]?=some v->ss[j]?=some s->∃p,v=.ref p/\j7 aZ H p s)->∃as,vs=as.map V.ref/\dg aZ H as ss:=by
  intro ss;induction ss with
  |nil=>intro vs ah _;cases vs with
   |nil=>exact⟨[],z,dg.nil⟩
   |cons v r=>cases ah
  |cons s r ih=>intro vs ah uI;cases vs with
   |nil=>cases ah
   |cons v vs=>
    obtain⟨p,rfl,ar⟩:=uI 0 v s z z;obtain⟨as,rfl,a8⟩:=ih vs ↥ah λ j v s D G=>uI (j+1) v s D G;refine⟨p::as,z,by simp[a8.len],λ i a aV D G=>?_⟩;cases i with
    |zero=>cases D;cases G;exact ar
    |succ i=>exact a8.at_ i a aV D G
 refine key ss vs (by rw[h.len,be]) λ j v s D G=>?_;rcases h.at_ j v (some s) D (by rw[d5,G];rfl) with⟨B,_⟩|⟨aV,p,an,aU,bY⟩
 ·cases B
 ·cases an;exact⟨p,aU,bY⟩
def i3.Dt {T:e3 K am}{os:List (Option Sen)}(h:i3 T.da H l os vs):∀v∈vs,x' K H v:=by
 intro v ba;obtain⟨j,a0⟩:=jz ba;have ah:j<os.length:=by rw[<-h.len];exact(c_.mp a0).1
 rcases h.at_ j v _ a0 (ez ah) with⟨_,B⟩|⟨s,p,_,aU,dx,bY⟩;·exact .inl B
 ·exact .inr ⟨p,_,dx,_,aU,bY,T.K8⟩
def i3.first {os:List (Option Sen)}(h:i3 aZ H l os vs)(D:os[i]?=some none)(G:∀j,j<i->∃s,os[j]?=some (some s)):V.b6∈vs/\vs[i]?=some .b6/\∀(m:Nat)(B:V),m<i->vs[m]?=some B->B≠.b6:=by
 have aj:i<vs.length:=by rw[h.len];exact(c_.mp D).1
 have e:vs[i]?=some .b6:=by
  rw[ez aj];rcases h.at_ i vs[i] none (ez aj) D with⟨_,B⟩|⟨s,p,an,_⟩
  ·rw[B]
  ·cases an
 refine⟨gc e,e,λ m B hm hz=>?_⟩;obtain⟨s,au⟩:=G m hm;rcases h.at_ m B _ hz au with⟨q,_⟩|⟨aV,p,_,aU,_⟩
 ·cases q
 ·rw[aU];intro q;cases q
def i3.all {ss:List Sen}(h:i3 aZ H l (ss.map some) vs):¬V.b6∈vs:=by obtain⟨_,rfl,_⟩:=h.kE;intro B;obtain⟨_,_,q⟩:=cd.mp B;cases q
inductive ajO:mD->Prop|mk{E}d dx av a ss xs:ν=[.ref d,.ref a]->ey T η d dx av ss->η a=some (.lst (bS xs))->gb T η d dx av ss (.text xs) θ->ajO E
def ajP:⇑7 6 T.vu (ajO T):=by
 refine bX T.vu.F Td λ _ vs _ _ h=>?_;obtain⟨d,dx,av,a,ss,xs,rfl,af,az,k⟩:=h;refine⟨z,λ _ _ _ _ ab _ oC=>?_⟩;intro X;refine⟨_,(aJ (cb (iO (gE (bf T.qS T.yu (MC T) ab (U (O 1) (U (b5 T.Cx) ai))))) (aN (a6 (b_ (U (b5 T.sW) ai)))) cj) (aJ (bQ 2 Td.nd (bf T.m7 T.Ce (Vm T) ab (U (O 1) ai))) (aJ (cb (b9 (Ss oC) o2 (O 2) z) (aN (a6 (b_ (U bc (U bc (U (e0 rN (Ao wv DF ND (Su oC) (O 2) (U o2 ai)) bc) ai)))))) cj) (aJ (cb (b9 fO (dJ fJ z T.eu eK (U (O 2) ai)) (b5 T.vT) (b7 _)) (aN (a6 (b_ (U bc (U bc (U (dJ fJ z T.eu eK (U (O 2) ai)) ai)))))) cj) (aJ (jd (O 0) (O 2) z) (aN (a6 (b_ (U bc (U bc (U (dJ fJ z T.eu eK (U (O 2) ai)) ai))))))))))),?_⟩;have ae:=M4 ss xs;refine⟨_,z,a,xs,4000,z,az,⇑0,λ _ al=>⟨_,z,?_⟩⟩;cases q:isText 4000 xs with
 |false=>rw[q,ay ⇑0] at ae;exact df ⟨dY,λ r ab=>k.row af al ae r ab⟩
 |true=>
  rw[q,aA z] at ae;refine c7 ⟨_,z,a,bytes xs,z,by rw[<-lq q];exact al _ _ az,by rw[kJ];have:=kK q;omega,λ pl vs aE gQ ajQ c3=>?_⟩;have aq:=al.trans gQ;refine⟨_,z,pl,vs,z,z,c3.lst,c3.Dt,_,z,?_⟩;rcases M.m7 (bytes xs) with⟨l,D,G⟩|⟨i,D,G,an⟩
  ·rw[D] at c3;rw[eA c3.all];rw[G] at ae;dsimp only at ae;refine c7 ⟨_,z,pl,vs,z,.inl (aG.of c3.lst),_,_,z,z,_,z,bZ (λ aU=>?_) (λ aU=>?_)⟩
   ·have aU:=ge aU;rw[c3.len,be] at aU;rw[aA ⇑1] at ae;refine⟨_,z,pl,vs,z,.inl (aG.of c3.lst),i8,λ r ab=>?_⟩;rw[c3.len,be];exact k.row af aq ae r ab
   ·have aU:¬_:=λ B=>aU (dO B);rw[c3.len,be] at aU;rw[ay ⇑1] at ae;obtain⟨as,rfl,a8⟩:=c3.kE;have ew:=aq _ _ af.obj;have ajR:d≠pl:=λ B=>by rw[B] at ew;rw[c3.lst] at ew;cases ew
    refine⟨_,z,_,z,d,_,dx,_,z,ew,T.cI,T.fF,(by show 1<1000;decide),?_⟩;have oz:(upd aE d (.ins T.e2 dx (hb "lines" (.ref pl) [("lines",.ref av)]))) pl=some (.lst (as.map V.ref)):=bw c3.lst (λ B=>ajR B.symm);refine⟨_,z,pl,_,z,.inl (aG.of oz),i8,λ r ab=>?_⟩;rw[be,a8.len];generalize k1:upd aE d (.ins T.e2 dx (hb "lines" (.ref pl) [("lines",.ref av)]))=bj at ab oz;have VX:bj d=some (.ins T.e2 dx [("lines",.ref pl)]):=by rw[<-k1,aI];rfl
    have lO:∀c,bj c=none->aE c=none:=λ c ak=>by
     rw[<-k1] at ak;by_cases B:c=d;·rw[B,aI] at ak;cases ak
     ·rw[dv B] at ak;exact ak
    have l8:=lO r ab;refine k r pl _ ?_ ?_ (.inr (al.free ajQ)) (aq.free l8) ?_
    ·intro b _ e Y _;refine bw ?_ (cy (aq _ _ e) l8);rw[<-k1];exact bw (aq _ _ e) Y
    ·rw[ae];refine⟨bw VX (cy VX ab),⟨as,bw oz (cy oz ab),a8.len,λ i b s ap ao=>?_⟩,?_⟩
     ·obtain⟨tf,Y⟩:=a8.at_ i b s ap ao;have L7:=cw Y ew (by intro B;injection B with _ _ uM;cases uM);refine⟨tf,bw ?_ (cy Y l8)⟩;rw[<-k1];exact bw Y L7
     ·have:=VR af.kept xs;rw[ae] at this;exact this
    ·rw[aI,ae];rfl
  ·obtain⟨a',a5,bn⟩:=c3.first D G;rw[dO a'];rw[an] at ae;dsimp only at ae;refine df ⟨_,z,.inl ⟨z,_,aG.of c3.lst⟩,pl,vs,i,z,z,c3.lst,c3.Dt,a5,bn,_,_,z,z,i8,λ r ab=>?_⟩;exact k.row af aq ae r ab
def gb.moved {T:e3 K am}{as ut:List Addr}(k:gb T H d dx av ss c Q)(af:ey T H d dx av ss)(aq:aH H aE)(ah:aE av=some (.lst (as.map V.ref)))
  (a8:dg T.da aE ut ajS) (e:step ss c=(ajS,tc)):∀r,(upd aE av (.lst (ut.map V.ref))) r=none->Q (.ref r) (upd (upd aE av (.lst (ut.map V.ref))) r (.lst (bS tc))):=λ r aX=>by
 have ew:=aq _ _ af.obj;have oa:=cw ew ah ⇑3;have kH:r≠av:=λ B=>by rw[B,aI] at aX;cases aX
 have l8:aE r=none:=by rw[dv kH] at aX;exact aX
 refine k r av _ ?_ ?_ (.inl z) (aq.free l8) ?_
 ·intro b _ di _ Y;exact bw (bw (aq _ _ di) Y) (cy (aq _ _ di) l8)
 ·rw[e];refine⟨bw (bw ew oa) (cy ew l8),⟨ut,bw aI (λ B=>kH B.symm),a8.len,λ i b s ap ao=>?_⟩,?_⟩
  ·obtain⟨tf,Y⟩:=a8.at_ i b s ap ao;exact⟨tf,bw (bw Y (cw Y ah ⇑3)) (cy Y l8)⟩
  ·have:=ajm af.kept c;rw[e] at this;exact this
 ·rw[aI,e]
inductive ajT:mD->Prop|mk{E}d dx av a ss xs:ν=[.ref d,.ref a]->ey T η d dx av ss->η a=some (.lst (bS xs))->gb T η d dx av ss (.add xs) θ->ajT E
def ajU:⇑7 5 T.vv (ajT T):=by
 refine bX T.vv.F Te λ _ _ _ _ h=>?_;obtain⟨d,dx,av,a,ss,xs,rfl,af,az,k⟩:=h;refine⟨z,λ _ _ _ _ ab _ _=>?_⟩;intro X;refine⟨_,(aJ (cb (iO (gE (bf T.qS T.yu (MC T) ab (U (O 1) (U (b5 T.K0) ai))))) (aN (a6 (b_ (U (b5 T.sW) ai)))) cj) (aJ (bQ 2 Te.nd (bf T.sG T.B7 (Vd T) ab (U (O 1) ai))) (aJ (cb (w_ (WS (O 2))) (aN (a6 (b_ (U (b5 T.K3) ai)))) cj) (aJ (cb (b9 O4 (dJ fJ z T.eu eK (U (cZ (O 0) z) ai)) (b5 T.vT) (b7 _)) (aN (a6 (b_ (U (b5 T.K5) ai)))) cj) (aJ (eY (fX hK (cZ (O 0) z) (U (O 2) ai))) (aN (a6 (b_ (U bc (U (dJ fJ z T.eu eK (U (cZ (O 0) z) ai)) ai)))))))))),?_⟩;have ae:=M5 ss xs;refine⟨_,z,a,xs,100,z,az,⇑0,λ _ al=>⟨_,z,?_⟩⟩;cases q:isText 100 xs with
 |false=>rw[q,ay ⇑0] at ae;exact df ⟨dY,λ r ab=>k.row af al ae r ab⟩
 |true=>
  rw[q,aA z] at ae;refine c7 ⟨_,z,a,bytes xs,z,by rw[<-lq q];exact al _ _ az,by rw[kJ];have:=kK q;omega,λ aB aE gQ=>?_,λ _ au p CU aE gQ _ ar=>?_⟩
  ·rw[aB] at ae;dsimp only at ae;exact⟨_,z,_,z,df ⟨dY,λ r ab=>k.row af (al.trans gQ) ae r ab⟩⟩
  ·rw[au] at ae;dsimp only at ae;have aq:=al.trans gQ;have ew:=aq _ _ af.obj;obtain⟨as,ah,a8⟩:=af.lst;have ik:=aq _ _ ah;have ajV:=a8.same aq;refine⟨_,z,_,z,c7 ⟨_,z,d,_,dx,_,_,z,ew,T.cI,T.fF,z,av,_,z,.inl (aG.of ik),_,_,z,z,_,z,bZ (λ aU=>?_) (λ aU=>?_)⟩⟩
   ·have aU:=ge aU;rw[be,a8.len] at aU;rw[aA ⇑1] at ae;exact⟨dY,λ r ab=>k.row af aq ae r ab⟩
   ·have aU:¬_:=λ B=>aU (dO B);rw[be,a8.len] at aU;rw[ay ⇑1] at ae;have oa:=cw ew ik ⇑3;refine⟨_,z,d,_,dx,_,_,z,ew,T.cI,T.fF,z,.inl ⟨z,_,aG.of ik⟩,_,z,av,_,_,z,z,ik,?_,?_⟩
    ·rw[be,a8.len];exact em ⇑1
    ·have ap:as.map V.ref++[V.ref p]=(as++[p]).map V.ref:=by rw[db];rfl
     rw[ap];refine⟨_,z,d,_,dx,_,_,z,bw ew oa,T.cI,T.fF,z,av,_,z,.inl (aG.of aI),hv,λ r ab=>?_⟩;have ao:(((as++[p]).map V.ref).length:Int)=((ss.length+1:Nat):Int):=by simp[a8.len]
     rw[ao];exact k.moved af aq ik (ajV.snoc ⟨CU,ar⟩) ae r ab
def dg.erase (h:dg aZ H as ss)(k):dg aZ H (as.eraseIdx k) (ss.eraseIdx k):=by
 refine⟨by rw[wB,wB,h.len],λ i a s ap ao=>?_⟩;rw[List.getElem?_eraseIdx] at ap ao;split at ap;·rename_i q;rw[aA q] at ao;exact h.at_ i a s ap ao
 ·rename_i q;rw[ay q] at ao;exact h.at_ (i+1) a s ap ao
def dg.set (h:dg aZ H as ss)(q:j7 aZ H a s)(k):dg aZ H (as.set k a) (ss.set k s):=by
 refine⟨by rw[p3,p3,h.len],λ i b u ap ao=>?_⟩;by_cases B:i=k
 ·subst B;have aj:i<as.length:=by have:=(c_.mp ap).1;rwa [p3] at this
  rw[wx aj] at ap;rw[wx (by rw[<-h.len];exact aj)] at ao;cases ap;cases ao;exact q
 ·rw[zC (λ y=>B y.symm)] at ap ao;exact h.at_ i b u ap ao
def Na (h:¬nu xs n<0):∀x∈xs,1<=x/\x<=n:=by
 unfold nu at h;intro x aa;split at h
 ·rename_i q;split at h
  ·omega
  ·rename_i bb;unfold mj at q;rw[dF] at q;have D:=hq.mp q.2 x aa;unfold inr at D;rw[dF,fG,fG] at D;refine⟨D.1,?_⟩;have G:¬(n:Int)<x:=λ B=>bb (hS.mpr ⟨x,aa,dO B⟩);omega
 ·omega
inductive ajW:mD->Prop|mk{E}d dx av ss n:ν=[.ref d,.int n]->ey T η d dx av ss->gb T η d dx av ss (.cut n) θ->ajW E
def ajX:⇑7 3 T.vw (ajW T):=by
 refine bX T.vw.F Tf λ H _ _ _ h=>?_;obtain⟨d,dx,av,ss,n,rfl,af,k⟩:=h;refine⟨z,λ _ _ _ _ ab _ _=>?_⟩;intro X;refine⟨_,(aJ (bQ 2 Tf.nd (bf T.sN T.Cb (Vr T) ab (U (cZ (O 0) z) (U (b_ (U (O 1) ai)) ai)))) (aJ (cb (b9 nR (O 2) bc (b7 _)) (aN (a6 (b_ (U (O 2) ai)))) cj) (aJ (eY (Ao wv Om PySem.F.type_list_pop Ye (cZ (O 0) z) (U (e0 o4 (O 1) bc) ai))) (aN (a6 (b_ (U bc (U (dJ fJ z T.eu eK (U (cZ (O 0) z) ai)) ai)))))))),?_⟩;have ae:=M6 ss n;obtain⟨as,ah,a8⟩:=af.lst;refine⟨_,z,d,_,dx,_,_,z,af.obj,T.cI,T.fF,z,_,z,dY,λ bk fZ=>?_⟩;have al:aH H (upd H bk (.lst [.int n])):=bp fZ;refine⟨av,bk,_,[n],z,al _ _ ah,aI,λ _ gQ=>?_⟩;have aq:=al.trans gQ;have ew:=aq _ _ af.obj;have ik:=aq _ _ ah;rw[be,a8.len];refine⟨_,z,_,_,z,z,_,z,bZ (λ D=>?_) (λ D=>?_)⟩
 ·have D:=ge D;rw[aA D] at ae;exact⟨_,z,dY,λ r ab=>k.row af aq ae r ab⟩
 ·have D:¬_:=λ B=>D (dO B);rw[ay D] at ae;obtain⟨_,_⟩:=Na D n ⇑2;have te:=af.kept.2;have ax:n.toNat - 1<as.length:=by rw[a8.len];omega
  have oa:=cw ew ik ⇑3;refine⟨_,z,d,_,dx,_,_,z,ew,T.cI,T.fF,z,.inl ⟨z,_,aG.of ik⟩,_,z,_,_,z,z,av,_,n - 1,n.toNat - 1,.ref as[n.toNat - 1],z,z,ik,⇑1,⇑1,?_,by rw[d5,ez ax];rfl,?_⟩
  ·rw[be];have bY:=ef.ET (n:=as.length) (i:=n - 1) (j:=n.toNat - 1) (by unfold kX;rw[aA ⇑1,aA ⇑1];congr 1;omega)
   exact bY.1
  ·have ap:(as.map V.ref).eraseIdx (n.toNat - 1)=(as.eraseIdx (n.toNat - 1)).map V.ref:=by simp[List.eraseIdx_eq_take_drop_succ,wQ,D_]
   rw[ap];refine⟨_,z,d,_,dx,_,_,z,bw ew oa,T.cI,T.fF,z,av,_,z,.inl (aG.of aI),hv,λ r ab=>?_⟩;have ao:(((as.eraseIdx (n.toNat - 1)).map V.ref).length:Int)=(ss.length:Int) - 1:=by rw[be,wB,aA ax,a8.len];omega
   rw[ao];exact k.moved af aq ik ((a8.same aq).erase (n.toNat - 1)) ae r ab
inductive ajY:mD->Prop|mk{E}d dx av ss n m:ν=[.ref d,.int n,.int m]->ey T η d dx av ss->gb T η d dx av ss (.swap n m) θ->ajY E
def Nb {len:Nat}{n:Int}(D:1<=n)(G:n<=len):kX len (n - 1)=some (n.toNat - 1):=by unfold kX;rw[aA ⇑1,aA ⇑1];congr 1;omega
def VY {n:Int}{v:V}(D:1<=n)(G:n<=xs.length)(h:xs[n.toNat - 1]?=some v):kY xs (n - 1)=some v:=by unfold kY;rw[Nb D G];exact h
def ajZ:⇑7 3 T.vx (ajY T):=by
 refine bX T.vx.F IN λ H _ _ _ h=>?_;obtain⟨d,dx,av,ss,n,m,rfl,af,k⟩:=h;refine⟨z,λ _ _ _ _ ab _ _=>?_⟩;intro X;refine⟨_,(aJ (bQ 3 IN.nd (bf T.sN T.Cb (Vr T) ab (U (cZ (O 0) z) (U (b_ (U (O 1) (U (O 2) ai))) ai)))) (aJ (cb (b9 nR (O 3) bc (b7 _)) (aN (a6 (b_ (U (O 3) ai)))) cj) (aJ (bQ 4 IN.nd (hy jf (cZ (O 0) z) (e0 o4 (O 1) bc) (λ _ _=>rfl))) (aJ (OS (hy jf (cZ (O 0) z) (e0 o4 (O 2) bc) (λ _ _=>rfl)) (OR (cZ (O 0) z) (e0 o4 (O 1) bc) set_list)) (aJ (OS (O 4) (OR (cZ (O 0) z) (e0 o4 (O 2) bc) set_list)) (aN (a6 (b_ (U bc ai))))))))),?_⟩;have ae:=M7 ss n m;obtain⟨as,ah,a8⟩:=af.lst;refine⟨_,z,d,_,dx,_,_,z,af.obj,T.cI,T.fF,z,_,z,_,z,hv,λ bk fZ=>?_⟩;have al:aH H (upd H bk (.lst [.int n,.int m])):=bp fZ;refine⟨av,bk,_,[n,m],z,al _ _ ah,aI,λ aE gQ=>?_⟩;have aq:=al.trans gQ;have ew:=aq _ _ af.obj;have ik:=aq _ _ ah;rw[be,a8.len];refine⟨_,z,_,_,z,z,_,z,bZ (λ D=>?_) (λ D=>?_)⟩
 ·have D:=ge D;rw[aA D] at ae;exact⟨_,z,dY,λ r ab=>k.row af aq ae r ab⟩
 ·have D:¬_:=λ B=>D (dO B);rw[ay D] at ae;obtain⟨a',a5⟩:=Na D n ⇑2;obtain⟨bn,cx⟩:=Na D m ⇑2;have aB:n.toNat - 1<ss.length:=by omega
  have hm:m.toNat - 1<ss.length:=by omega
  obtain⟨a,ej,az⟩:=a8.of (ez aB);obtain⟨b,di,Y⟩:=a8.of (ez hm);rw[ez aB,ez hm] at ae;dsimp only at ae;have oa:=cw ew ik ⇑3;have bR:(as.map V.ref).length=ss.length:=by rw[be,a8.len]
  have aj0:(as.map V.ref)[n.toNat - 1]?=some (.ref a):=by rw[d5,ej];rfl
  have aj1:(as.map V.ref)[m.toNat - 1]?=some (.ref b):=by rw[d5,di];rfl
  refine⟨_,z,d,_,dx,_,_,z,ew,T.cI,T.fF,z,_,z,_,_,z,z,av,_,_,.ref a,z,z,aG.of ik,VY a' (by rw[bR];exact a5) aj0,?_⟩;refine⟨_,z,d,_,dx,_,_,z,ew,T.cI,T.fF,z,_,z,_,_,z,z,av,_,_,.ref b,z,z,aG.of ik,VY bn (by rw[bR];exact cx) aj1,?_⟩;have ap:(as.map V.ref).set (n.toNat - 1) (.ref b)=(as.set (n.toNat - 1) b).map V.ref:=by rw[zT]
  refine⟨_,z,d,_,dx,_,_,z,ew,T.cI,T.fF,z,_,z,_,_,z,z,av,_,_,_,z,z,ik,Nb a' (by rw[bR];exact a5),?_⟩;rw[ap];have ao:((as.set (n.toNat - 1) b).map V.ref).set (m.toNat - 1) (.ref a)=((as.set (n.toNat - 1) b).set (m.toNat - 1) a).map V.ref:=by rw[zT,zT,zT]
  refine⟨_,z,_,z,d,_,dx,_,_,z,bw ew oa,T.cI,T.fF,z,_,z,_,_,z,z,av,_,_,_,z,z,aI,Nb bn (by rw[be,p3,a8.len];exact cx),?_⟩;rw[ao];have bz:upd (upd aE av (.lst ((as.set (n.toNat - 1) b).map V.ref))) av (.lst (((as.set (n.toNat - 1) b).set (m.toNat - 1) a).map V.ref))=upd aE av (.lst (((as.set (n.toNat - 1) b).set (m.toNat - 1) a).map V.ref)):=by
   funext c;by_cases B:c=av;·rw[B,aI,aI]
   ·rw[dv B,dv B,dv B]
  rw[bz];refine⟨dY,λ r ab=>?_⟩;exact k.moved af aq ik (((a8.same aq).set (Y.same aq) _).set (az.same aq) _) ae r ab
def re (b:Bytes):PyData:=.list (b.map λ(n:Nat)=>.int (n:Int))
theorem VZ:∀b:Bytes,rZ K H (br b) (b.map λ(n:Nat)=>.int (n:Int))
 |[]=>.nil
 |n::r=>.cons (.int _) (VZ r)
def V0 (h:H a=some (.lst (br b))):he K H (.ref a) (re b):=.lst (aG.of h) (VZ b)
theorem V1:∀b:Bytes,PyData.canLayAll0 (b.map λ(n:Nat)=>.int (n:Int))=true
 |[]=>by simp[PyData.canLayAll0]
 |n::r=>by rw[bU,PyData.canLayAll0,V1 r];simp[PyData.canLay0]
theorem V2:∀a b:Bytes,PyData.eqvAll (a.map λ(n:Nat)=>.int (n:Int)) (b.map λ(n:Nat)=>.int (n:Int))=(a==b)
 |[],[]=>by simp[PyData.eqvAll]
 |[],_::_=>by simp[PyData.eqvAll]
 |_::_,[]=>by simp[PyData.eqvAll]
 |x::a,y::b=>by
  rw[bU,bU,PyData.eqvAll,V2 a b,PyData.eqv];have:((x:Int)==(y:Int))=(x==y):=by rw[eW,d_,d_];omega
  rw[this];rfl
def V3 (b):SeqAt.shaped (re b)=true:=by
 unfold SeqAt.shaped re;rw[dF];refine⟨by rw[PyData.canLay0];exact V1 b,dO ?_⟩;rw[PyData.depth];have:∀b:Bytes,PyData.depthAll (b.map λ(n:Nat)=>.int (n:Int))=0:=by
  intro b;induction b with
  |nil=>simp[PyData.depthAll]
  |cons x r ih=>rw[bU,PyData.depthAll,ih,PyData.depth];rfl
 rw[this];decide
def aj2 (a b):PyData.eqv (re a) (re b)=(a==b):=by unfold re;rw[PyData.eqv];exact V2 a b
inductive aj3:mD->Prop|mk{E}d dx av a ss xs:ν=[.ref d,.ref a]->ey T η d dx av ss->η a=some (.lst (bS xs))->gb T η d dx av ss (.same xs) θ->aj3 E
def aj4:⇑7 12 T.vJ (aj3 T):=by
 refine bX T.vJ.F I1 λ H vs _ _ h=>?_;obtain⟨d,dx,av,a,ss,xs,rfl,af,az,k⟩:=h;refine⟨z,λ _ _ _ _ ab _ oC=>?_⟩;intro X;refine⟨_,(aJ (bQ 2 I1.nd (bf T.qT T.yv (MD T) ab (U (cZ (O 0) z) (U (b_ (U (O 1) ai)) (U (b5 T.Cx) ai))))) (aJ (cb (b9 nR (O 2) bc (b7 _)) (aN (a6 (b_ (U (O 2) ai)))) cj) (aJ (bQ 3 I1.nd (bf T.m7 T.Ce (Vm T) ab (U (O 1) ai))) (aJ (cb (b9 (Ss oC) o2 (O 3) z) (aN (a6 (b_ (U bc (U bc (U (e0 rN (Ao wv DF ND (Su oC) (O 3) (U o2 ai)) bc) ai)))))) cj) (aJ (cb (iO (gE (bf T.og T.sL (zd T) ab (U (O 3) ai)))) (aN (a6 (b_ (U bc (U bc ai))))) cj) (aN (a6 (b_ (U bc (U (mE (b9 (Yj oC) (bf T.py T.vp (Dj T) ab (U (bf T.qR T.yt (Md T) ab (U (O 3) ai)) ai)) (bf T.py T.vp (Dj T) ab (U (bf T.qR T.yt (Md T) ab (U (cZ (O 0) z) ai)) ai)) (b7 _)) bc bc) ai)))))))))),?_⟩;have ae:=step_same ss xs;have ax:=af.kept;have te:=ax.2;refine⟨_,z,d,_,dx,_,_,z,af.obj,T.cI,T.fF,z,_,z,dY,λ kG kH=>?_⟩;have al:aH H (upd H kG (.lst [.ref a])):=bp kH;refine⟨av,kG,ss,[a],[xs],4000,z,af.lst.same al,⇑1,ax.1,aI,kL.one (al _ _ az),(by show 1<=2;decide),⇑0,λ _ gQ=>?_⟩;have aq:=al.trans gQ;refine⟨_,z,_,_,z,z,_,z,bZ (λ D=>?_) (λ D=>?_)⟩
 ·have D:=ge D;rw[aA D] at ae;exact⟨_,z,dY,λ r ab=>k.row af aq ae r ab⟩
 have D:¬_:=λ B=>D (dO B);rw[ay D] at ae;obtain⟨a_,V4⟩:=ml.mp (Vs.resolve_right D);have q:=a_ xs ⇑2;refine⟨_,z,a,bytes xs,z,by rw[<-lq q];exact aq _ _ az,by rw[kJ];have:=kK q;omega,λ pl vs bj jw _ c3=>?_⟩;have aO:=aq.trans jw;refine⟨_,z,pl,vs,z,z,c3.lst,c3.Dt,_,z,?_⟩;rcases M.m7 (bytes xs) with⟨l,an,aU⟩|⟨i,an,aU,bY⟩
 ·have bi:=M.Sh an;have qh:=ajq (by rw[kJ];exact kK q) aU;rw[an] at c3;rw[eA c3.all];rw[aU] at ae;dsimp only at ae;obtain⟨as,rfl,a8⟩:=c3.kE;have cq:gA T bj pl l:=⟨as,c3.lst,a8⟩;refine c7 ⟨_,z,pl,l,z,cq,qh,bi,λ _ kM=>⟨_,z,?_⟩⟩;have bh:=aO.trans kM;cases e:Vbtaae.makes l with
  |false=>rw[e,ay ⇑0] at ae;exact df ⟨hv,λ r ab=>k.row af bh ae r ab⟩
  |true=>
   rw[e,aA z,Ds bi e,Ds ax.1 V4] at ae;refine c7 ?_;have W1:=M.n8 bi e;have aj5:=M.n8 ax.1 V4;have iC:(shownAll (M.hH (nb l))).length<=sizeLine:=cK (VS bi qh) ⇑0;have e_:(shownAll (M.hH (nb ss))).length<=sizeLine:=cK (VS ax.1 ⇑1) ⇑0;refine⟨_,z,pl,l,z,cq.same kM,qh,W1.calm.lY,λ b0 _ V5=>⟨b0,_,z,V5.M',zo bi,iC,λ _ _ cm _ wd=>?_⟩⟩;have kN:=bh.trans (V5.base.trans cm);refine⟨_,z,d,_,dx,_,_,z,kN _ _ af.obj,T.cI,T.fF,z,av,ss,z,af.lst.same kN,⇑1,aj5.calm.lY,λ de _ hV=>⟨de,_,z,hV.M',zo ax.1,e_,λ _ _ fp _ np=>?_⟩⟩;have zn:=kN.trans (hV.base.trans fp);have aj6:=fp _ _ (hV.base _ _ wd);refine⟨re (shownAll (M.hH (nb l))),re (shownAll (M.hH (nb ss))),V0 aj6,V0 np,V3 _,V3 _,_,z,?_⟩;rw[aj2];cases bb:(shownAll (M.hH (nb l))==shownAll (M.hH (nb ss))) with
   |true=>rw[bb] at ae;exact df ⟨hv,λ r ab=>k.row af zn ae r ab⟩
   |false=>rw[bb] at ae;exact c7 ⟨hv,λ r ab=>k.row af zn ae r ab⟩
 ·obtain⟨a',a5,bn⟩:=c3.first an aU;rw[dO a'];rw[bY] at ae;dsimp only at ae;refine df ⟨_,z,.inl ⟨z,_,aG.of c3.lst⟩,pl,vs,i,z,z,c3.lst,c3.Dt,a5,bn,_,_,z,z,i8,λ r ab=>?_⟩;exact k.row af aO ae r ab
def aj7 {g:jE}{fc:TT}{cc:TE}{mT:aP->Prop}(Pv:Nat->aP->Prop)(aX:Pv 0 (upd H1 af (.lst [])))(ah:∀i H,i<=xs.length->Pv i H->aG K H a xs)
  (au:∀i x tp H,xs[i]?=some x->Pv i H->H tp=none->g (.ref tp) (wipe L vs) (upd H tp (.tup [.int ((i+1:Nat):Int),x])) λ c' aE=>wipe c' vs=wipe L vs/\fc c' aE λ b bj=>if b=true then cc c' bj λ y b1=>∃aY,b1 af=some (.lst aY)/\aY.length<sizeLine/\Pv (i+1) (upd b1 af (.lst (aY++[y]))) else Pv (i+1) bj) (hd:∀H,Pv xs.length H->mT H):
  ∃W:Nat->Nat->aP->Prop,(∃m,W 0 m (upd H1 af (.lst [])))/\∀i m H,W i m H->
   ((x8 K a).stop i H/\mT H)\/((x8 K a).go i H/\∃hg:aP->Prop,(∀J,hg J->∃cP,cP<m/\W (i+1) cP J)/\∀x J,(x8 K a).nP i H x J->g x (wipe L vs) J λ c' aE=>wipe c' vs=wipe L vs/\fc c' aE λ b bj=>if b=true then cc c' bj λ y b1=>∃aY,b1 af=some (.lst aY)/\aY.length<sizeLine/\hg (upd b1 af (.lst (aY++[y]))) else hg bj):=by
 refine⟨λ i m H=>m=xs.length - i/\i<=xs.length/\Pv i H,⟨xs.length,z,cQ _,aX⟩,?_⟩;rintro i m H ⟨rfl,aj,p⟩;have q:=ah i H aj p;by_cases c6:i<xs.length
 ·refine .inr ⟨⟨xs,xs[i],q,by simp[c6]⟩,Pv (i+1),λ J fN=>⟨xs.length - (i+1),⇑1,z,c6,fN⟩,λ x J y=>?_⟩;obtain⟨T,B,rfl,aM,rfl,y⟩:=y;exact au i B T _ (y xs q) p aM
 ·have e:i=xs.length:=by omega
  subst e;exact .inl ⟨⟨xs,q,bG _⟩,hd H p⟩
def aj8 (B)(l):eb (.int B) (bS l)=l.contains B:=by
 unfold eb bS;rw[rt,eW,hS,nA];constructor
 ·rintro⟨x,aa,h⟩;have:x=B:=by simpa[qzz] using h
  rw[<-this];exact aa
 ·intro h;exact⟨B,h,by simp[qzz]⟩
def aj9 (l):(bS l).all mO=true:=by rw[hq];intro _ ba;obtain⟨_,_,rfl⟩:=cd.mp ba;rfl
inductive aka:mD->Prop|mk{E}d dx av a ss xs:ν=[.ref d,.ref a]->ey T η d dx av ss->η a=some (.lst (bS xs))->gb T η d dx av ss (.alone xs) θ->aka E
def rf (ss:List Sen)(xs:List Int)(i:Nat):List Sen:=(((nb ss).take i).filter λ x=>xs.contains (x.1:Int)).map λ x=>x.2
def V6 (ss)(xs)(i):(rf ss xs i).length<=ss.length:=by unfold rf;rw[be];refine cK (hR _ _) ?_;rw[c5,ii];omega
def V7 (ss)(xs):rf ss xs ss.length=Vbtaae.some_ ss xs:=by unfold rf Vbtaae.some_;rw[<-ii ss,fy]
def akb (h:∀s∈ss,M.cE s)(xs):∀s∈Vbtaae.some_ ss xs,M.cE s:=by intro s au;unfold Vbtaae.some_ at au;obtain⟨x,aa,rfl⟩:=cd.mp au;exact oG h x (dX.mp aa).1
def akc:⇑7 11 T.vK (aka T):=by
 refine bX T.vK.F BZ λ _ _ _ E h=>?_;obtain⟨d,dx,av,a,ss,xs,rfl,af,az,k⟩:=h;refine⟨z,λ _ _ _ _ ab _ _=>?_⟩;intro X;refine⟨_,(aJ (cb (iO (gE (bf T.sM T.Ca (Vq T) ab (U (O 1) ai)))) (aN (a6 (b_ (U (b5 T.sW) ai)))) cj) (aJ (Ay (i:=2) z BZ.nd z z (Az z z z z) (Sp z T.CD (U (cZ (O 0) z) ai)) (hB (own:=[("number",4),("line",5)]) z) (λ _ _ _ _ _=>(v6 (K:=K) (i:=4) (j:=5) z z BZ.nd z z (Or.inl z) (Or.inl z) (Or.inr z) (Or.inr z))) (λ _ _ _ _ _=>r0 (b9 (CV (K:=K) z) (O 4) (O 1) z)) (λ _ _ _ _ _=>(O 5))) (aJ (bQ 3 BZ.nd (bf T.qP T.yq (L9 T) ab (U (O 2) ai))) (aN (a6 (b_ (U bc (U (mE (b9 fO (dJ fJ z T.eu eK (U (O 3) ai)) bc (b7 _)) (hy jf (O 3) bc (λ _ _=>rfl)) bc) (U (mE (gE (bf T.og T.sL (zd T) ab (U (O 2) ai))) bc bc) ai))))))))),?_⟩;have ae:=M9 ss xs;have ax:=af.kept;have te:=ax.2;refine⟨_,z,a,xs,z,az,λ H1 al=>⟨_,z,?_⟩⟩;cases q:mj xs with
 |false=>rw[q,ay ⇑0] at ae;exact df ⟨dY,λ r ab=>k.row af al ae r ab⟩
 |true=>
  rw[q,aA z] at ae;obtain⟨as,ah,a8⟩:=af.lst;have iU:=al _ _ ah;refine c7 ⟨_,z,d,_,dx,_,_,z,al _ _ af.obj,T.cI,T.fF,z,av,_,z,aG.of iU,λ E zh=>?_⟩;refine aj7 (K:=K) (a:=av) (xs:=as.map V.ref) (λ i J=>aH H1 J/\∃bs,J E=some (.lst (bs.map V.ref))/\dg T.da J bs (rf ss xs i)) ⟨bp zh,[],aI,dg.nil⟩ (λ i J _ h=>aG.of (h.1 _ _ iU)) ?_ ?_
  ·rintro i _ tp J aj ⟨aq,bs,zq,hY⟩ iI;rw[d5] at aj;cases e:as[i]? with
   |none=>rw[e] at aj;cases aj
   |some b=>
    rw[e] at aj;cases aj;obtain⟨s,w6,au⟩:=a8.get e;have aO:aH J (upd J tp (.tup [.int ((i+1:Nat):Int),.ref b])):=bp iI;have ln:=al.trans (aq.trans aO);refine⟨tp,_,z,dh.of aI,z,_,_,z,_,_,z,z,z,?_⟩;refine⟨_,z,_,z,a,_,z,.inl (aG.of (ln _ _ az)),z,aj9 _,_,z,?_⟩;have ap:eb (.int ((i+1:Nat):Int)) (bS xs)=xs.contains ((i+1:Nat):Int):=aj8 _ _;have Du:rf ss xs (i+1)=rf ss xs i++(if xs.contains ((i+1:Nat):Int)=true then[s] else[]):=by unfold rf;rw[eH (C0 w6),lw,db];congr 1;rw[g4];split<;>rfl
    cases bb:xs.contains ((i+1:Nat):Int) with
    |true=>
     rw[bb,aA z] at Du;rw[bb] at ap;have ao:(if false=true then !eb (.int ((i+1:Nat):Int)) (bS xs) else eb (.int ((i+1:Nat):Int)) (bS xs))=true:=by rw[ap];rfl
     rw[ao];refine df ⟨_,z,_,aO _ _ zq,?_,ev (aq.trans aO) zh,bs++[b],by rw[aI,db];rfl,?_⟩;·rw[be,hY.len];have:=V6 ss xs i;exact em ⇑1
     ·rw[Du];have V8:=(hY.same aO).snoc (au.same ln);refine⟨V8.len,λ j c u bz fe=>?_⟩;obtain⟨akd,ak⟩:=V8.at_ j c u bz fe;exact⟨akd,bw ak (cw ak (aO _ _ zq) ⇑3)⟩
    |false=>
     rw[bb,ay ⇑0,hr] at Du;rw[bb] at ap;have ao:(if false=true then !eb (.int ((i+1:Nat):Int)) (bS xs) else eb (.int ((i+1:Nat):Int)) (bS xs))=false:=by rw[ap];rfl
     rw[ao];refine c7 ⟨aq.trans aO,bs,aO _ _ zq,?_⟩;rw[Du];exact hY.same aO
  ·rintro aE ⟨aq,bs,zq,hY⟩;rw[be,a8.len,V7] at hY;have bR:(Vbtaae.some_ ss xs).length<=1000:=by rw[<-V7];have:=V6 ss xs ss.length;omega
   have bi:=akb ax.1 xs;have cq:gA T aE E (Vbtaae.some_ ss xs):=⟨bs,zq,hY⟩;have ed:=al.trans aq;refine⟨_,z,E,_,z,cq,bR,bi,λ cl _ aO _ fC=>?_⟩;have i2:=ed.trans aO;refine⟨_,z,cl,_,z,.inl (aG.of fC),_,_,z,z,_,z,bZ (λ D=>?_) (λ D=>?_)⟩
   ·rw[du] at D;have D:=ge D;cases e:Vbtaae.clash (Vbtaae.some_ ss xs) with
    |none=>rw[e] at D;simp[j_] at D
    |some c=>
     rw[e] at fC ae;dsimp only at ae;refine⟨_,z,cl,_,_,.int (c.1:Int),z,z,aG.of fC,at_of (j:=0) z z,?_⟩;refine⟨_,z,E,_,z,cq.same aO,bR,bi,λ b1 bh=>⟨_,z,?_⟩⟩;cases fT:Vbtaae.makes (Vbtaae.some_ ss xs) with
     |true=>rw[fT] at ae;exact df ⟨i8,λ r ab=>k.row af (i2.trans bh) ae r ab⟩
     |false=>rw[fT] at ae;exact c7 ⟨i8,λ r ab=>k.row af (i2.trans bh) ae r ab⟩
   ·rw[du] at D;have D:¬_:=λ B=>D (dO B);cases e:Vbtaae.clash (Vbtaae.some_ ss xs) with
    |some c=>rw[e] at D;exact absurd (by simp[j_]) D
    |none=>
     rw[e] at ae;dsimp only at ae;refine⟨_,z,E,_,z,cq.same aO,bR,bi,λ b1 bh=>⟨_,z,?_⟩⟩;cases fT:Vbtaae.makes (Vbtaae.some_ ss xs) with
     |true=>rw[fT] at ae;exact df ⟨i8,λ r ab=>k.row af (i2.trans bh) ae r ab⟩
     |false=>rw[fT] at ae;exact c7 ⟨i8,λ r ab=>k.row af (i2.trans bh) ae r ab⟩
abbrev dy (T:e3 K am)(bu bk:Addr)(i:Nat):gn:=.ins T.oq bu [("numbers",.ref bk),("taken",.int (i:Int))]
def V9 {T:e3 K am}(h:aG K H bk xs)(a_:H tp=some (dy T bu q i))(D:∀b u,H b=some u->b≠tp->H1 b=some u):aG K H1 bk xs:=by
 rcases h with (h|⟨o,h⟩)|h;·exact .inl (.inl (D _ _ h (cw h a_ ⇑3)))
 ·exact .inl (.inr ⟨o,D _ _ h (cw h a_ ⇑3)⟩)
 ·exact .inr h
def Dv {T:e3 K am}(h:aG K H bk xs)(a_:H tp=some (dy T bu q i)):aG K (upd H tp u) bk xs:=V9 h a_ λ _ _ Y aB=>bw Y aB
inductive ake:mD->Prop|mk{E}t bu bk:ν=[.ref t,.ref bk]->η t=some (.ins T.oq bu [])->θ .b6 (upd η t (dy T bu bk 0))->ake E
def akf:⇑7 1 T.vq (ake T):=by refine bX T.vq.F aen λ _ _ _ _ h=>?_;obtain⟨t,bu,_,rfl,a_,k⟩:=h;refine⟨z,λ _ _ _ _ _ _ _=>?_⟩;intro X;refine⟨_,(aJ (jd (O 0) (O 1) z) (aN (jd (O 0) bc z))),?_⟩;refine⟨_,z,_,z,t,_,bu,[],z,a_,T.f6,T.vQ,(by show 0<1000;decide),?_⟩;refine⟨_,z,t,_,bu,_,z,aI,T.f6,T.pz,(by show 1<1000;decide),?_⟩;rw[wX];exact k
inductive akg:mD->Prop|mk{E}t bu bk l i:ν=[.ref t]->η t=some (dy T bu bk i)->aG K η bk (bS l)->θ (.bg (decide (l.length<=i))) η->akg E
def akh:⇑7 1 T.vr (akg T):=by
 refine bX T.vr.F aeo λ H _ Q _ h=>?_;obtain⟨t,bu,bk,l,i,rfl,a_,ah,k⟩:=h;refine⟨z,λ _ _ _ _ _ _ _=>?_⟩;intro X;refine⟨_,(aN (a6 (hX O4 (cZ (O 0) z) (dJ fJ z T.eu eK (U (cZ (O 0) z) ai)) (b7 _)))),?_⟩;refine⟨_,z,t,_,bu,_,_,z,a_,T.f6,T.pz,z,_,z,t,_,bu,_,_,z,a_,T.f6,T.vQ,z,bk,_,z,.inl ah,_,_,z,z,?_⟩;have e:decide (((bS l).length:Int)<=(i:Int))=decide (l.length<=i):=by
  rw[iJ];by_cases h:l.length<=i;·rw[dO h];exact dO ⇑1
  ·rw[eA h];exact eA ⇑1
 show Q (.bg (decide (((bS l).length:Int)<=(i:Int)))) H;rw[e];exact k
inductive aki:mD->Prop|mk{E}t bu bk l i B:ν=[.ref t]->η t=some (dy T bu bk i)->aG K η bk (bS l)->l[i]?=some B->θ (.int B) (upd η t (dy T bu bk (i+1)))->aki E
def zr:⇑7 1 T.oh (aki T):=by refine bX T.oh.F aep λ H _ _ _ h=>?_;obtain⟨t,bu,bk,l,i,B,rfl,a_,ah,hz,k⟩:=h;refine⟨z,λ _ _ _ _ _ _ _=>?_⟩;intro X;refine⟨_,(aJ (jd (O 0) (e0 rN (cZ (O 0) z) bc) z) (aN (a6 (hy jf (cZ (O 0) z) (e0 o4 (cZ (O 0) z) bc) (λ _ _=>rfl))))),?_⟩;refine⟨_,z,t,_,bu,_,_,z,a_,T.f6,T.pz,z,_,_,z,z,_,z,t,_,bu,_,z,a_,T.f6,T.pz,(by show 2<1000;decide),?_⟩;have D:(upd H t (dy T bu bk (i+1))) t=some (dy T bu bk (i+1)):=aI;have G:aG K (upd H t (dy T bu bk (i+1))) bk (bS l):=Dv ah a_;refine⟨_,z,t,_,bu,_,_,z,D,T.f6,T.vQ,z,_,z,t,_,bu,_,_,z,D,T.f6,T.pz,z,_,_,z,z,bk,_,_,.int B,z,z,G,at_of (j:=i) (by show((i+1:Nat):Int) - 1=i;omega) (by unfold bS;rw[d5,hz];rfl),?_⟩;exact k
inductive akj:mD->Prop|mk{E}(t bu bk:Addr)(l:List Int)(i n:Nat):ν=[.ref t]->η t=some (dy T bu bk i)->aG K η bk (bS l)->l[i]?=some (n:Int)->i+1+n<=l.length->(∀r,(upd η t (dy T bu bk (i+1+n))) r=none->θ (.ref r) (upd (upd η t (dy T bu bk (i+1+n))) r (.lst (bS ((l.drop (i+1)).take n)))))->akj E
def akk (l)(i n:Nat)(h:i+n<=l.length):lK (bS l) (some (i:Int)) (some ((i+n:Nat):Int))=bS ((l.drop i).take n):=by unfold lK;rw[c8.ER,c8.ER,iJ,rp (by omega:i<=l.length),rp h];unfold bS;rw[<-D_,<-wQ];congr 2;omega
def Nc:⇑7 2 T.qW (akj T):=by
 refine bX T.qW.F IH λ H _ _ _ h=>?_;obtain⟨t,bu,bk,l,i,n,rfl,a_,ah,hz,aB,k⟩:=h;refine⟨z,λ _ _ _ _ ab _ _=>?_⟩;intro X;refine⟨_,(aJ (bQ 1 IH.nd (kF T.oh T.f6 T.sQ (zr T) ab (O 0))) (aJ (bQ 2 IH.nd (cZ (O 0) z)) (aJ (jd (O 0) (e0 rN (O 2) (O 1)) z) (aN (a6 (rX xm (cZ (O 0) z) (qf (O 2)) (qf (e0 rN (O 2) (O 1))))))))),?_⟩;refine⟨_,z,t,bu,_,z,a_,z,t,bu,bk,l,i,_,z,a_,ah,hz,?_⟩;have D:(upd H t (dy T bu bk (i+1))) t=some (dy T bu bk (i+1)):=aI;refine⟨_,z,t,_,bu,_,_,z,D,T.f6,T.pz,z,?_⟩;refine⟨_,z,_,z,_,_,z,z,_,z,t,_,bu,_,z,D,T.f6,T.pz,(by show 2<1000;decide),?_⟩;rw[wX];have G:(upd H t (dy T bu bk (i+1+n))) t=some (dy T bu bk (i+1+n)):=aI;have an:aG K (upd H t (dy T bu bk (i+1+n))) bk (bS l):=Dv ah a_;refine⟨_,z,t,_,bu,_,_,z,G,T.f6,T.vQ,z,_,z,_,z,_,z,_,z,_,_,z,z,_,z,bk,_,z,an,λ r ab=>?_⟩;have ao:lK (bS l) (some ((i+1:Nat):Int)) (some (((i+1:Nat):Int)+(n:Int)))=bS ((l.drop (i+1)).take n):=by rw[<-akk l (i+1) n aB];rfl
 rw[ao];exact k r ab
inductive tg:Int->Vbtaae.Call->Prop
 |hj:tg 4 .clash
 |l2:tg 5 .lacking
 |si:tg 6 .makes
 |x4:tg 7 .text_
 |V_:tg 8 .normal
inductive RowC (xs:List Int):Int->Vbtaae.Call->Prop
 |fs:RowC xs 0 (.text xs)
 |dp:RowC xs 1 (.add xs)
 |Nd:RowC xs 9 (.kind xs)
 |Nf:RowC xs 10 (.chain xs)
 |Ng:RowC xs 13 (.place xs)
 |Nh:RowC xs 14 (.things xs)
 |Ni:RowC xs 15 (.same xs)
 |V':RowC xs 16 (.alone xs)
def nx (a):decide (V.int a=V.int a)=true:=dO z
inductive akl:mD->Prop|mk{E}d dx av ss B c:ν=[.ref d,.int B]->ey T η d dx av ss->tg B c->gb T η d dx av ss c θ->akl E
def akm:⇑7 12 T.vM (akl T):=by
 refine bX T.vM.F aeC λ H vs Q E h=>?_;obtain⟨d,dx,av,ss,B,c,rfl,af,ak,k⟩:=h;refine⟨z,λ _ _ _ _ ab a1 oC=>?_⟩;intro X;refine⟨_,(aJ (cb (b9 eG (O 1) bc (b7 _)) (aN (a6 (kF T.vy T.cI T.JH (ajF T) ab (O 0)))) cj) (aJ (cb (b9 eG (O 1) bc (b7 _)) (aN (a6 (kF T.vz T.cI T.JI (ajH T) ab (O 0)))) cj) (aJ (cb (b9 eG (O 1) bc (b7 _)) (aN (a6 (kF T.vA T.cI T.JJ (ajJ T) ab (O 0)))) cj) (aJ (cb (b9 eG (O 1) bc (b7 _)) (aN (a6 (kF T.vB T.cI T.JK (ajL T) ab (O 0)))) cj) (aN (a6 (kF T.vC T.cI T.JL (ajN T) ab (O 0)))))))),?_⟩;refine⟨_,z,z,_,z,bZ (λ h=>?_) (λ h=>⟨_,z,z,_,z,bZ (λ h=>?_) (λ h=>⟨_,z,z,_,z,bZ (λ h=>?_) (λ h=>⟨_,z,z,_,z,bZ (λ h=>?_) (λ h=>?_)⟩)⟩)⟩)⟩
 ·cases ak with
  |hj=>exact⟨_,z,d,dx,_,z,af.obj,z,d,dx,av,ss,z,af,k⟩
  |_=>exact absurd h ⇑0
 ·cases ak with
  |l2=>exact⟨_,z,d,dx,_,z,af.obj,z,d,dx,av,ss,z,af,k⟩
  |_=>exact absurd h ⇑0
 ·cases ak with
  |si=>exact⟨_,z,d,dx,_,z,af.obj,z,d,dx,av,ss,z,af,k⟩
  |_=>exact absurd h ⇑0
 ·cases ak with
  |x4=>exact⟨_,z,d,dx,_,z,af.obj,z,d,dx,av,ss,z,af,k⟩
  |_=>exact absurd h ⇑0
 ·rename_i cx g0 pj;cases ak with
  |hj=>exact absurd (nx _) cx
  |l2=>exact absurd (nx _) g0
  |si=>exact absurd (nx _) pj
  |x4=>exact absurd (nx _) h
  |V_=>exact⟨_,z,d,dx,_,z,af.obj,z,d,dx,av,ss,z,af,k⟩
inductive akn:mD->Prop|mk{E}d dx av a ss xs B c:ν=[.ref d,.int B,.ref a]->ey T η d dx av ss->η a=some (.lst (bS xs))->RowC xs B c->gb T η d dx av ss c θ->akn E
def ako:⇑7 15 T.vL (akn T):=by
 refine bX T.vL.F aeB λ _ _ _ _ h=>?_;obtain⟨d,dx,av,a,ss,xs,_,_,rfl,af,az,ak,k⟩:=h;refine⟨z,λ _ _ _ _ ab _ _=>?_⟩;intro X;refine⟨_,(aJ (cb (b9 eG (O 1) bc (b7 _)) (aN (a6 (md T.vu T.cI T.JD (ajP T) ab (O 0) (U (O 2) ai)))) cj) (aJ (cb (b9 eG (O 1) bc (b7 _)) (aN (a6 (md T.vv T.cI T.JE (ajU T) ab (O 0) (U (O 2) ai)))) cj) (aJ (cb (b9 eG (O 1) bc (b7 _)) (aN (a6 (md T.vD T.cI T.JM (ajt T) ab (O 0) (U (O 2) ai)))) cj) (aJ (cb (b9 eG (O 1) bc (b7 _)) (aN (a6 (md T.vE T.cI T.JN (ajv T) ab (O 0) (U (O 2) ai)))) cj) (aJ (cb (b9 eG (O 1) bc (b7 _)) (aN (a6 (md T.vH T.cI T.JQ (ajx T) ab (O 0) (U (O 2) ai)))) cj) (aJ (cb (b9 eG (O 1) bc (b7 _)) (aN (a6 (md T.vI T.cI T.JR (ajz T) ab (O 0) (U (O 2) ai)))) cj) (aJ (cb (b9 eG (O 1) bc (b7 _)) (aN (a6 (md T.vJ T.cI T.JS (aj4 T) ab (O 0) (U (O 2) ai)))) cj) (aN (a6 (md T.vK T.cI T.JT (akc T) ab (O 0) (U (O 2) ai))))))))))),?_⟩;refine⟨_,z,z,_,z,bZ (λ h=>?_) (λ fr=>⟨_,z,z,_,z,bZ (λ h=>?_) (λ a'=>⟨_,z,z,_,z,bZ (λ h=>?_) (λ akp=>⟨_,z,z,_,z,bZ (λ h=>?_) (λ LX=>⟨_,z,z,_,z,bZ (λ h=>?_) (λ akq=>⟨_,z,z,_,z,bZ (λ h=>?_) (λ akr=>⟨_,z,z,_,z,bZ (λ h=>?_) (λ aks=>?_)⟩)⟩)⟩)⟩)⟩)⟩)⟩
 ·cases ak with
  |fs=>exact⟨_,z,d,dx,_,z,af.obj,z,_,z,d,dx,av,a,ss,xs,z,af,az,k⟩
  |_=>exact absurd h ⇑0
 ·cases ak with
  |dp=>exact⟨_,z,d,dx,_,z,af.obj,z,_,z,d,dx,av,a,ss,xs,z,af,az,k⟩
  |_=>exact absurd h ⇑0
 ·cases ak with
  |Nd=>exact⟨_,z,d,dx,_,z,af.obj,z,_,z,d,dx,av,a,ss,xs,z,af,az,k⟩
  |_=>exact absurd h ⇑0
 ·cases ak with
  |Nf=>exact⟨_,z,d,dx,_,z,af.obj,z,_,z,d,dx,av,a,ss,xs,z,af,az,k⟩
  |_=>exact absurd h ⇑0
 ·cases ak with
  |Ng=>exact⟨_,z,d,dx,_,z,af.obj,z,_,z,d,dx,av,a,ss,xs,z,af,az,k⟩
  |_=>exact absurd h ⇑0
 ·cases ak with
  |Nh=>exact⟨_,z,d,dx,_,z,af.obj,z,_,z,d,dx,av,a,ss,xs,z,af,az,k⟩
  |_=>exact absurd h ⇑0
 ·cases ak with
  |Ni=>exact⟨_,z,d,dx,_,z,af.obj,z,_,z,d,dx,av,a,ss,xs,z,af,az,k⟩
  |_=>exact absurd h ⇑0
 ·cases ak with
  |fs=>exact absurd (nx _) fr
  |dp=>exact absurd (nx _) a'
  |Nd=>exact absurd (nx _) akp
  |Nf=>exact absurd (nx _) LX
  |Ng=>exact absurd (nx _) akq
  |Nh=>exact absurd (nx _) akr
  |Ni=>exact absurd (nx _) aks
  |V'=>exact⟨_,z,d,dx,_,z,af.obj,z,_,z,d,dx,av,a,ss,xs,z,af,az,k⟩
def Nj (H:aP)(d dx av tp bu bk:Addr)(ss:List Sen)(l:List Int)(c:List (List Int))(t:List Int)(Q:d7):Prop:=∀r ka J th,(∀b u,H b=some u->b≠d->b≠av->b≠tp->J b=some u)->ey T J d dx ka (VbtaaeNeutral.step ss c).1->J tp=some (dy T bu bk th)->l.drop th=t->(ka=av\/H ka=none)->H r=none->J r=some (.lst (bS (VbtaaeNeutral.step ss c).2))->Q (.ref r) J
def Nj.oJ {T:e3 K am}(k:Nj T H d dx av tp bu bk ss l c t Q)
  (D:∀b u,H b=some u->b≠tp->H1 b=some u) (a_:H1 tp=some (dy T bu bk th)) (hd:l.drop th=t) (ap:d≠tp) (ao:av≠tp) (e:VbtaaeNeutral.step ss c=step ss dw):gb T H1 d dx av ss dw Q:=by
 intro r ka J a' a5 bn cx g0;have ow:∀b,H1 b=none->H b=none:=λ b Y=>by
  cases q:H b with
  |none=>rfl
  |some u=>
   by_cases B:b=tp;·rw[B,a_] at Y;cases Y
   ·rw[D b u q B] at Y;cases Y
 refine k r ka J th ?_ ?_ ?_ hd ?_ (ow r cx) ?_;·intro b u Y ca cp dN;exact a' b u (D b u Y dN) ca cp
 ·rw[e];exact a5
 ·exact a' _ _ a_ (λ B=>ap B.symm) (λ B=>ao B.symm)
 ·rcases bn with B|B
  ·exact .inl B
  ·exact .inr (ow _ B)
 ·rw[e];exact g0
def ey.kO {T:e3 K am}(af:ey T H d dx av ss)(a_:H tp=some (dy T bu bk i))(D:∀b u,H b=some u->b≠tp->H1 b=some u):ey T H1 d dx av ss:=by obtain⟨as,ah,a8⟩:=af.lst;refine⟨D _ _ af.obj (cw af.obj a_ (by intro B;injection B with _ _ B;cases B)),⟨as,D _ _ ah (cw ah a_ ⇑3),a8.len,λ j b s ap ao=>?_⟩,af.kept⟩;obtain⟨tf,Y⟩:=a8.at_ j b s ap ao;exact⟨tf,D _ _ Y (cw Y a_ (by intro B;injection B with _ _ B;cases B))⟩
def zs {l:List Int}(h:l.drop i=B::r):l[i]?=some B/\l.drop (i+1)=r/\i+1<=l.length:=by
 have aj:i<l.length:=by
  by_cases q:i<l.length;·exact q
  ·rw[NJ ⇑1] at h;cases h
 rw[ny aj] at h;injection h with D G
 exact⟨by rw[ez aj,D],G,aj⟩
def Nk {l:List Int}(h:l.drop i=(x.length:Int)::(x++t)):l[i]?=some (x.length:Int)/\i+1+x.length<=l.length/\(l.drop (i+1)).take x.length=x/\l.drop (i+1+x.length)=t:=by
 obtain⟨D,G,_⟩:=zs h;have ah:(l.drop (i+1)).length=x.length+t.length:=by rw[G,cX]
 rw[lx] at ah;refine⟨D,⇑1,by rw[G,List.take_left],?_⟩;rw[<-D5,G,List.drop_left]
inductive akt:mD->Prop|mk{E}d dx av tp bu bk ss l i p c t:ν=[.ref d,.int p,.ref tp]->ey T η d dx av ss->η tp=some (dy T bu bk i)->aG K η bk (bS l)->m9 (p::l.drop i) c t->Nj T η d dx av tp bu bk ss l c t θ->akt E
def aku:⇑7 16 T.answer (akt T):=by
 refine bX T.answer.F B0 λ H _ _ _ h=>?_;obtain⟨d,dx,av,tp,bu,bk,ss,l,i,p,c,_,rfl,af,a_,ah,jT,k⟩:=h;refine⟨z,λ _ _ _ _ ab _ _=>?_⟩;intro X;refine⟨_,(aJ (cb (b9 mP (O 1) (li T.CB) z) (aN (a6 (bf T.vM T.Jv (akm T) ab (U (O 0) (U (O 1) ai))))) cj) (aJ (cb (b9 mP (O 1) (li T.CC) z) (aN (a6 (bf T.vL T.Ju (ako T) ab (U (O 0) (U (O 1) (U (kF T.qW T.f6 T.yC (Nc T) ab (O 2)) ai)))))) cj) (aJ (cb (b9 eG (O 1) bc (b7 _)) (aN (a6 (md T.vw T.cI T.JF (ajX T) ab (O 0) (U (kF T.oh T.f6 T.sQ (zr T) ab (O 2)) ai)))) cj) (aJ (cb (b9 eG (O 1) bc (b7 _)) (aJ (bQ 3 B0.nd (kF T.oh T.f6 T.sQ (zr T) ab (O 2))) (aN (a6 (md T.vx T.cI T.JG (ajZ T) ab (O 0) (U (O 3) (U (kF T.oh T.f6 T.sQ (zr T) ab (O 2)) ai)))))) cj) (aJ (cb (b9 mP (O 1) (gT (U bc (U bc ai))) z) (aJ (bQ 4 B0.nd (kF T.qW T.f6 T.yC (Nc T) ab (O 2))) (aJ (bQ 5 B0.nd (kF T.qW T.f6 T.yC (Nc T) ab (O 2))) (aN (a6 (mE (b9 eG (O 1) bc (b7 _)) (md T.vF T.cI T.JO (ajB T) ab (O 0) (U (O 4) (U (O 5) ai))) (md T.vG T.cI T.JP (ajD T) ab (O 0) (U (O 4) (U (O 5) ai)))))))) cj) (aN WZ)))))),?_⟩;have ap:=cw af.obj a_ (by intro B;injection B with _ _ B;cases B);have ao:av≠tp:=by obtain⟨_,h,_⟩:=af.lst;exact cw h a_ ⇑3
 refine⟨_,z,T.K6,_,z,.inr T.K7.i1,z,z,_,z,?_⟩;generalize ab:l.drop i=rest at jT;cases jT with
 |bare _ _ h=>
  have Y:(if false=true then !eb (.int p) [.int 4,.int 5,.int 6,.int 7,.int 8] else eb (.int p) [.int 4,.int 5,.int 6,.int 7,.int 8])=true:=by rcases h with rfl|rfl|rfl|rfl|rfl<;>rfl
  rw[Y];obtain⟨dw,o1,e⟩:∃dw,tg p dw/\VbtaaeNeutral.step ss [[p]]=step ss dw:=by
   rcases h with rfl|rfl|rfl|rfl|rfl;·exact⟨_,.hj,z⟩
   ·exact⟨_,.l2,z⟩
   ·exact⟨_,.si,z⟩
   ·exact⟨_,.x4,z⟩
   ·exact⟨_,.V_,z⟩
  exact df ⟨_,z,_,z,d,dx,av,ss,p,dw,z,af,o1,k.oJ (λ b u e _=>e) a_ ab ap ao e⟩
 |row _ x _ h aa=>
  have Y:(if false=true then !eb (.int p) [.int 4,.int 5,.int 6,.int 7,.int 8] else eb (.int p) [.int 4,.int 5,.int 6,.int 7,.int 8])=false:=by rcases h with rfl|rfl|rfl|rfl|rfl|rfl|rfl|rfl<;>rfl
  have np:(if false=true then !eb (.int p) [.int 0,.int 1,.int 9,.int 10,.int 13,.int 14,.int 15,.int 16] else eb (.int p) [.int 0,.int 1,.int 9,.int 10,.int 13,.int 14,.int 15,.int 16])=true:=by rcases h with rfl|rfl|rfl|rfl|rfl|rfl|rfl|rfl<;>rfl
  rw[Y];refine c7 ⟨_,z,T.vU,_,z,.inr T.vV.i1,z,z,_,z,?_⟩;rw[np];obtain⟨dw,o1,e⟩:∃dw,RowC x p dw/\VbtaaeNeutral.step ss [[p],x]=step ss dw:=by
   rcases h with rfl|rfl|rfl|rfl|rfl|rfl|rfl|rfl;·exact⟨_,.fs,z⟩
   ·exact⟨_,.dp,z⟩
   ·exact⟨_,.Nd,z⟩
   ·exact⟨_,.Nf,z⟩
   ·exact⟨_,.Ng,z⟩
   ·exact⟨_,.Nh,z⟩
   ·exact⟨_,.Ni,z⟩
   ·exact⟨_,.V',z⟩
  obtain⟨b0,de,mM,o5⟩:=Nk ab;refine df ⟨_,z,_,z,_,z,tp,bu,_,z,a_,z,tp,bu,bk,l,i,x.length,z,a_,ah,b0,de,λ a az=>?_⟩;rw[mM];have iw:∀b u,H b=some u->b≠tp->(upd (upd H tp (dy T bu bk (i+1+x.length))) a (.lst (bS x))) b=some u:=λ b u Y aB=>by have:=bw (o:=dy T bu bk (i+1+x.length)) Y aB;exact bw this (cy this az)
  have iT:(upd (upd H tp (dy T bu bk (i+1+x.length))) a (.lst (bS x))) tp=some (dy T bu bk (i+1+x.length)):=bw aI (cy aI az);exact⟨d,dx,av,a,ss,x,p,dw,z,af.kO a_ iw,aI,o1,k.oJ iw iT o5 ap ao e⟩
 |cut n _=>obtain⟨b0,de,_⟩:=zs ab;refine c7 ⟨_,z,T.vU,_,z,.inr T.vV.i1,z,z,_,z,c7 ⟨_,z,z,_,z,df ⟨_,z,d,dx,_,z,af.obj,z,_,z,tp,bu,_,z,a_,z,tp,bu,bk,l,i,n,z,a_,ah,b0,?_⟩⟩⟩;have iw:∀b u,H b=some u->b≠tp->(upd H tp (dy T bu bk (i+1))) b=some u:=λ b u Y aB=>bw Y aB;exact⟨d,dx,av,ss,n,z,af.kO a_ iw,k.oJ iw aI de ap ao z⟩
 |swap n m _=>obtain⟨b0,de,_⟩:=zs ab;obtain⟨mM,o5,_⟩:=zs de;refine c7 ⟨_,z,T.vU,_,z,.inr T.vV.i1,z,z,_,z,c7 ⟨_,z,z,_,z,c7 ⟨_,z,z,_,z,df ⟨_,z,tp,bu,_,z,a_,z,tp,bu,bk,l,i,n,z,a_,ah,b0,?_⟩⟩⟩⟩;have iw:∀b u,H b=some u->b≠tp->(upd H tp (dy T bu bk (i+1))) b=some u:=λ b u Y aB=>bw Y aB;have Dw:=af.kO a_ iw;refine⟨_,z,d,dx,_,z,Dw.obj,z,_,z,_,z,tp,bu,_,z,aI,z,tp,bu,bk,l,i+1,m,z,aI,Dv ah a_,mM,?_⟩;rw[wX];have wn:∀b u,H b=some u->b≠tp->(upd H tp (dy T bu bk (i+1+1))) b=some u:=λ b u Y aB=>bw Y aB;exact⟨d,dx,av,ss,n,m,z,af.kO a_ wn,k.oJ wn aI o5 ap ao z⟩
 |two _ x y _ h aa aC=>
  have Y:(if false=true then !eb (.int p) [.int 4,.int 5,.int 6,.int 7,.int 8] else eb (.int p) [.int 4,.int 5,.int 6,.int 7,.int 8])=false:=by rcases h with rfl|rfl<;>rfl
  have np:(if false=true then !eb (.int p) [.int 0,.int 1,.int 9,.int 10,.int 13,.int 14,.int 15,.int 16] else eb (.int p) [.int 0,.int 1,.int 9,.int 10,.int 13,.int 14,.int 15,.int 16])=false:=by rcases h with rfl|rfl<;>rfl
  have q5:(if false=true then !eb (.int p) [.int 11,.int 12] else eb (.int p) [.int 11,.int 12])=true:=by rcases h with rfl|rfl<;>rfl
  have cp:decide (V.int p=V.int 2)=false:=by rcases h with rfl|rfl<;>decide
  have dN:decide (V.int p=V.int 3)=false:=by rcases h with rfl|rfl<;>decide
  rw[Y];refine c7 ⟨_,z,T.vU,_,z,.inr T.vV.i1,z,z,_,z,?_⟩;rw[np];refine c7 ⟨_,z,z,_,z,?_⟩;rw[cp];refine c7 ⟨_,z,z,_,z,?_⟩;rw[dN];refine c7 ⟨_,z,hv,λ Nl akv=>?_⟩;have al:aH H (upd H Nl (.tup [.int 11,.int 12])):=bp akv;refine⟨Nl,_,z,.inr (dh.of aI),z,z,_,z,?_⟩;rw[q5];generalize upd H Nl (.tup [.int 11,.int 12])=H1 at al;obtain⟨b0,de,mM,o5⟩:=Nk ab;obtain⟨q1,bb,eF,qe⟩:=Nk o5;have iT:=al _ _ a_;have iU:=al.seq ah;refine df ⟨_,z,tp,bu,_,z,iT,z,tp,bu,bk,l,i,x.length,z,iT,iU,b0,de,λ a az=>?_⟩;rw[mM];have wn:∀b u,H b=some u->b≠tp->(upd (upd H1 tp (dy T bu bk (i+1+x.length))) a (.lst (bS x))) b=some u:=λ b u Y aB=>by have:=bw (o:=dy T bu bk (i+1+x.length)) (al _ _ Y) aB;exact bw this (cy this az)
  have gz:(upd (upd H1 tp (dy T bu bk (i+1+x.length))) a (.lst (bS x))) tp=some (dy T bu bk (i+1+x.length)):=bw aI (cy aI az);have ik:=V9 ah a_ wn;have Wa:(upd (upd H1 tp (dy T bu bk (i+1+x.length))) a (.lst (bS x))) a=some (.lst (bS x)):=aI;have akw:a≠tp:=λ B=>by rw[B,aI] at az;cases az
  generalize (upd (upd H1 tp (dy T bu bk (i+1+x.length))) a (.lst (bS x)))=aE at wn gz ik Wa;refine⟨_,z,tp,bu,_,z,gz,z,tp,bu,bk,l,i+1+x.length,y.length,z,gz,ik,q1,bb,λ b qp=>?_⟩;rw[eF];have v8:∀c u,aE c=some u->c≠tp->(upd (upd aE tp (dy T bu bk (i+1+x.length+1+y.length))) b (.lst (bS y))) c=some u:=λ c u ak aB=>by have:=bw (o:=dy T bu bk (i+1+x.length+1+y.length)) ak aB;exact bw this (cy this qp)
  have Nm:(upd (upd aE tp (dy T bu bk (i+1+x.length+1+y.length))) b (.lst (bS y))) tp=some (dy T bu bk (i+1+x.length+1+y.length)):=bw aI (cy aI qp);have Nn:=v8 _ _ Wa akw;have xM:(upd (upd aE tp (dy T bu bk (i+1+x.length+1+y.length))) b (.lst (bS y))) b=some (.lst (bS y)):=aI;generalize (upd (upd aE tp (dy T bu bk (i+1+x.length+1+y.length))) b (.lst (bS y)))=bj at v8 Nm Nn xM;have ax:∀c u,H c=some u->c≠tp->bj c=some u:=λ c u ak aB=>v8 c u (wn c u ak aB) aB;have Dx:=af.kO a_ ax;refine⟨_,z,z,_,z,?_⟩;rcases h with rfl|rfl
  ·exact df ⟨_,z,d,dx,_,z,Dx.obj,z,_,z,_,z,d,dx,av,a,b,ss,x,y,z,Dx,Nn,xM,k.oJ ax Nm qe ap ao z⟩
  ·exact c7 ⟨_,z,d,dx,_,z,Dx.obj,z,_,z,_,z,d,dx,av,a,b,ss,x,y,z,Dx,Nn,xM,k.oJ ax Nm qe ap ao z⟩
inductive akx:mD->Prop|mk{E}p dx:ν=[.ref p]->η p=some (.ins T.e2 dx [])->(∀av,η av=none->θ .b6 (upd (upd η av (.lst [])) p (.ins T.e2 dx [("lines",.ref av)])))->akx E
def aky:⇑7 1 T.vt (akx T):=by refine bX T.vt.F aeq λ _ _ _ _ h=>?_;obtain⟨p,dx,rfl,ar,k⟩:=h;refine⟨z,λ _ _ _ _ _ _ _=>?_⟩;intro X;refine⟨_,(aN (jd (O 0) (b_ ai) z)),?_⟩;refine⟨cQ _,λ av fw=>⟨_,z,p,_,dx,[],z,bw ar (cy ar fw),T.cI,T.fF,(by show 0<1000;decide),?_⟩⟩;exact k av fw
def ey.put {T:e3 K am}(af:ey T H d dx av ss)(a_:H bl=some (.lst xs))(ah:av≠bl):ey T (upd H bl (.lst ys)) d dx av ss:=by obtain⟨as,D,a8⟩:=af.lst;refine⟨bw af.obj (cw af.obj a_ ⇑3),⟨as,bw D ah,a8.len,λ j b s ap ao=>?_⟩,af.kept⟩;obtain⟨tf,Y⟩:=a8.at_ j b s ap ao;exact⟨tf,bw Y (cw Y a_ ⇑3)⟩
def akz (h:Kept ss)(c):(VbtaaeNeutral.step ss c).2.length<=40000:=by
 unfold VbtaaeNeutral.step;cases VbtaaeNeutral.callOf c with
 |none=>exact cQ _
 |some d=>exact ajn h d
def akA (a)(r):PyFlat.told (a::r)=((a.length:Int)::a)++PyFlat.told r:=by unfold PyFlat.told;rw[my]
inductive Wb(K:Frag)(vs:List V)(H:aP)(Q:d7)(E:mD):Prop|mk bk l:vs=[.ref bk]->aG K H bk (bS l)->PyVbtaae.answers_asked l=true->(∀r J,aH H J->H r=none->J r=some (.lst (bS (PyVbtaae.answers l)))->Q (.ref r) J)->Wb K vs H Q E
structure Run (T:e3 K am)(H J:aP)(bk d dx av tp bu bl:Addr)(l:List Int)(i:Nat)(ss:List Sen)(cR:List Int):Prop where
 base:aH H J
 oJ:ey T J d dx av ss
 kO:J tp=some (dy T bu bk i)
 told:J bl=some (.lst (bS cR))
 f8:H av=none
 fv:H bl=none
 fd:H d=none
 b2:H tp=none
 lt:av≠bl
inductive Cl(H:aP)(bk d dx tp bu bl:Addr)(l:List Int)(m:Nat)(L:ef.St)(J:aP):Prop|i dE av i f cs ss cR:L=[some (.ref bk),some (.ref d),some (.ref tp),some (.ref bl),dE]->cs.length=m->m<=60->Run T H J bk d dx av tp bu bl l i ss cR->PyFlat.calls PyVbtaae.shape f (l.drop i)=some cs->(∀c∈cs,VbtaaeNeutral.asked1 c=true)->cR.length<=(60 - m) * 40001->cR++PyFlat.told (PyFlat.played VbtaaeNeutral.step ss cs)=PyVbtaae.answers l->Cl H bk d dx tp bu bl l m L J
def akB:⇑7 17 T.answers (Wb K):=by
 refine bX T.answers.F yj λ H _ _ _ h=>?_;obtain⟨bk,l,rfl,ah,No,k⟩:=h;refine⟨z,λ _ _ _ _ ab _ _=>?_⟩;intro X;refine⟨_,(aJ (bQ 1 yj.nd (ae2 T.vt T.JB T.JC (aky T) ab)) (aJ (bQ 2 yj.nd (ae0 T.vq T.Jy T.Jz (akf T) ab (U (O 0) ai))) (aJ (bQ 3 yj.nd (b_ ai)) (aJ (Ey f1 (iO (gE (kF T.vr T.f6 T.JA (akh T) ab (O 2)))) (aJ (bQ 4 yj.nd (bf T.answer T.Jw (aku T) ab (U (O 1) (U (kF T.oh T.f6 T.sQ (zr T) ab (O 2)) (U (O 2) ai))))) (aJ (eY (fX hK (O 3) (U (dJ fJ z T.eu eK (U (O 4) ai)) ai))) (aN (eY (fX qY (O 3) (U (O 4) ai))))))) (aN (a6 (O 3))))))),?_⟩;obtain⟨Wc,akC,akD,akE,akF⟩:=M.acf No;intro d dx hd Wd _;refine⟨d,dx,z,aI,λ av fw=>⟨z,?_⟩⟩;have We:H av=none:=by
  by_cases B:av=d;·rw[B];exact hd
  ·rw[dv B] at fw;by_cases e_:av=dx
   ·rw[e_];exact Wd
   ·rw[dv e_] at fw;exact fw
 have akG:av≠d:=λ B=>by rw[B,aI] at fw;cases fw
 have al:aH H (upd (upd (upd (upd H dx (.own d)) d (.ins T.e2 dx [])) av (.lst [])) d (.ins T.e2 dx [("lines",.ref av)])):=ev (ev (ev (bp Wd) hd) We) hd
 have Dw:ey T (upd (upd (upd (upd H dx (.own d)) d (.ins T.e2 dx [])) av (.lst [])) d (.ins T.e2 dx [("lines",.ref av)])) d dx av []:=⟨aI,⟨[],bw aI akG,dg.nil⟩,λ _ au=>by simp at au,cQ _⟩
 generalize (upd (upd (upd (upd H dx (.own d)) d (.ins T.e2 dx [])) av (.lst [])) d (.ins T.e2 dx [("lines",.ref av)]))=H1 at al Dw;refine⟨_,z,λ tp bu iI akH _=>⟨tp,bu,bk,z,aI,z,?_⟩⟩;rw[wX];have gQ:aH H1 (upd (upd H1 bu (.own tp)) tp (dy T bu bk 0)):=ev (bp akH) iI;have gz:(upd (upd H1 bu (.own tp)) tp (dy T bu bk 0)) tp=some (dy T bu bk 0):=aI;generalize (upd (upd H1 bu (.own tp)) tp (dy T bu bk 0))=aE at gQ gz;have aq:=al.trans gQ;have y6:=Dw.same gQ;refine⟨cQ _,λ bl y5=>?_⟩;have jw:aH aE (upd aE bl (.lst [])):=bp y5;have Wf:Run T H (upd aE bl (.lst [])) bk d dx av tp bu bl l 0 [] []:=by refine⟨aq.trans jw,y6.same jw,jw _ _ gz,aI,We,aq.free y5,hd,al.free iI,?_⟩;intro B;obtain⟨_,h,_⟩:=y6.lst;rw[B,y5] at h;cases h
 generalize upd aE bl (.lst [])=bj at Wf;refine⟨Cl T H bk d dx tp bu bl l,
  ⟨Wc.length,none,av,0,l.length,Wc,[],[],z,z,akE,Wf,akC,akD,cQ _,by rw[akF];rfl⟩,?_⟩
 rintro m L J ⟨dE,av,i,f,cs,ss,cR,rfl,rfl,hm,R,r8,Wg,akI,Wh⟩;have fZ:=R.base.seq ah;refine⟨_,z,tp,bu,_,z,R.kO,z,tp,bu,bk,l,i,z,R.kO,fZ,_,z,?_⟩;cases qD:l.drop i with
 |nil=>
  have aj:l.length<=i:=by have:=congrArg List.length qD;rw[lx,p4] at this;omega
  rw[dO aj];rw[qD] at r8;have:cs=[]:=by unfold PyFlat.calls at r8;cases r8;rfl
  subst this;refine c7 ⟨_,z,k bl J R.base R.fv ?_⟩;rw[R.told,<-Wh];have:PyFlat.told (PyFlat.played VbtaaeNeutral.step ss [])=[]:=rfl;rw[this,hr]
 |cons p r=>
  have aj:¬l.length<=i:=by intro B;rw[NJ B] at qD;cases qD
  rw[eA aj];rw[qD] at r8;obtain⟨iF,c,t,m8,rfl,akJ,akK,rfl⟩:=M.acb r8;have jT:=M.ace akJ (Wg c cn);obtain⟨b0,de,_⟩:=zs qD;refine df ⟨λ cf b1=>∃cP,cP<(c::m8).length/\Cl T H bk d dx tp bu bl l cP cf b1,λ _ _ B=>B,?_⟩
  refine⟨_,z,_,z,tp,bu,_,z,R.kO,z,tp,bu,bk,l,i,p,z,R.kO,fZ,b0,_,z,?_⟩;have iw:∀b u,J b=some u->b≠tp->(upd J tp (dy T bu bk (i+1))) b=some u:=λ b u Y aB=>bw Y aB;have s7:=cw R.told R.kO ⇑3;have akL:=cw R.told R.oJ.obj ⇑3;have pM:(upd J tp (dy T bu bk (i+1))) bl=some (.lst (bS cR)):=bw R.told s7;refine⟨d,dx,av,tp,bu,bk,ss,l,i+1,p,c,t,z,R.oJ.kO R.kO iw,aI,Dv fZ R.kO,by rw[de];exact jT,λ ow ka b1 th aQ akM akN akO ij Wi lO=>?_⟩;have ra:=aQ _ _ pM akL R.lt.symm s7;have akP:ow≠bl:=λ B=>by rw[B,pM] at Wi;cases Wi
  have Wj:ka≠bl:=by
   rcases ij with B|B;·rw[B];exact R.lt
   ·intro q;rw[q,pM] at B;cases B
  have MP:H ka=none:=by
   rcases ij with B|B;·rw[B];exact R.f8
   ·cases q:H ka with
    |none=>rfl
    |some u=>
     have bb:=R.base _ _ q;by_cases y:ka=tp;·rw[y,aI] at B;cases B
     ·rw[dv y,bb] at B;cases B
  have akQ:aH H b1:=λ b u Y=>by
   have qp:=R.base _ _ Y;have ca:b≠tp:=λ B=>by rw[B,R.b2] at Y;cases Y
   have cp:b≠d:=λ B=>by rw[B,R.fd] at Y;cases Y
   have dN:b≠av:=λ B=>by rw[B,R.f8] at Y;cases Y
   exact aQ _ _ (iw _ _ qp ca) cp dN ca
  have oF:=akz R.oJ.kept c;rw[cJ] at akI hm;refine⟨_,z,.inl ⟨z,_,aG.of ra⟩,_,z,ow,_,z,.inl (aG.of lO),bl,_,_,z,z,ra,?_,?_⟩;·rw[iJ];exact kR (by omega:_<=2400060) ⇑0
  rw[iJ];have akR:(upd b1 bl (.lst (bS cR++[.int ((VbtaaeNeutral.step ss c).2.length:Int)]))) ow=some (.lst (bS (VbtaaeNeutral.step ss c).2)):=bw lO akP;refine⟨_,z,.inl ⟨z,_,aG.of aI⟩,_,z,bl,ow,_,_,z,z,aI,akR,?_,?_⟩;·rw[cX,iJ,iJ,kQ];exact cK (by omega:_<=2500000) ⇑0
  rw[wX];refine⟨m8.length,⇑2,_,ka,th,iF,m8,(VbtaaeNeutral.step ss c).1,cR++(((VbtaaeNeutral.step ss c).2.length:Int)::(VbtaaeNeutral.step ss c).2),z,z,⇑1,?_,by rw[akO];exact akK,λ x aa=>Wg x (cu _ aa),?_,?_⟩
  ·refine⟨ev akQ R.fv,akM.put ra Wj,bw akN s7.symm,?_,MP,R.fv,R.fd,R.b2,Wj⟩;rw[aI,aiU,iL];rfl
  ·rw[cX,cJ];have:(60 - m8.length)=(60 - (m8.length+1))+1:=by omega
   rw[this,tH];omega
  ·rw[<-Wh];show _=cR++PyFlat.told ((VbtaaeNeutral.step ss c).2::PyFlat.played VbtaaeNeutral.step (VbtaaeNeutral.step ss c).1 m8);rw[akA,iL]
section
variable{C:Prop}{h:Heap}{f:Addr}{i9 c0 gV gW dI es:Value}{e9 gI:Option Addr}{sl:Array (Option Value)}
abbrev YP(x cL:Str)(st)(ps:List Str):=∀c0 gV gW gI dI es us,us.length=ps.length->bindArgs (PySem.W.fnOf x cL (n1 st) (lS st) (h1 st) .none c0 gV gW gI dI es) ⟨us,[]⟩=pure (ps.zip us)
theorem F1{P:List Value->Prop}:∀{us},us.length=1->(∀a,P [a])->P us|[_],_,h=>h _
theorem F2{P:List Value->Prop}:∀{us},us.length=2->(∀a b,P [a,b])->P us|[_,_],_,h=>h _ _
theorem F3{P:List Value->Prop}:∀{us},us.length=3->(∀a b c,P [a,b,c])->P us|[_,_,_],_,h=>h _ _ _
theorem F4{P:List Value->Prop}:∀{us},us.length=4->(∀a b c d,P [a,b,c,d])->P us|[_,_,_,_],_,h=>h _ _ _ _
theorem F5{P:List Value->Prop}:∀{us},us.length=5->(∀a b c d e,P [a,b,c,d,e])->P us|[_,_,_,_,_],_,h=>h _ _ _ _ _
theorem cO (aW:K.In h)(a2:h.Ns mainGlobals am)(st)(x)(ps)(go:∀af:dt K x x st ps,am x=some (.ref af.f)->C)(a:PySem.W.nsIn K mainGlobals x=some (some (.ref f)):=by k_is)(l:K.lookup f=some ⟨i9,e9,.func (PySem.W.fnOf x x (n1 st) (lS st) (h1 st) .none c0 gV gW gI dI es),sl⟩:=by k_is)(c:PySem.W.codeIn K dI x=true:=by k_is)(k:PySem.W.keepIn K (.ref f)=true:=by k_is)(Y:YP x x st ps:=by nofun):C:=go ⟨f,_,uq l c k,(uq l c k).binds Y⟩ (wR aW a2 a)
def gm {A:Addr}(_:fo K A)(st:Stmt)(x cL:Str)(ps:List Str)(go:∀af:dt K x cL st ps,Meth K A x af.f->C)(a:PySem.W.findIn K (.ref A) x=some (some (.ref f)):=by k_is)(i:PySem.W.isFn K (.ref f)=true:=by k_is)
  (l:K.lookup f=some ⟨i9,e9,.func (PySem.W.fnOf x cL (n1 st) (lS st) (h1 st) .none c0 gV gW gI dI es),sl⟩:=by k_is)
  (c:PySem.W.codeIn K dI cL=true:=by k_is) (k:PySem.W.keepIn K (.ref f)=true:=by k_is)
  (Y:YP x cL st ps:=by nofun):C:=
 go ⟨f,_,uq l c k,(uq l c k).binds Y⟩ ⟨a,i,k⟩
theorem zt (aW:K.In h)(a2:h.Ns mainGlobals am)(st)(x cL)(ps)(go:∀af:dt K "__init__" cL st ps,am x=some (.ref A)->fo K A->jI K A af.f->C)(a:PySem.W.nsIn K mainGlobals x=some (some (.ref A)):=by k_is)(c3:PySem.W.plainGet K A Str.empty=true:=by k_is)(hd:PySem.W.hasDictIn K A=true:=by k_is)(po:PySem.W.plainOver K A=true:=by k_is)(EJ:PySem.W.findIn K (.ref A) "__setattr__"=some (some (.builtin "object.__setattr__")):=by k_is)(mk:PySem.W.makesIn K A=true:=by k_is)(akS:PySem.W.keepIn K (.ref A)=true:=by k_is)(akT:PySem.W.findIn K (.ref A) "__init__"=some (some (.ref f)):=by k_is)(akU:PySem.W.isFn K (.ref f)=true:=by k_is)(l:K.lookup f=some ⟨i9,e9,.func (PySem.W.fnOf "__init__" cL (n1 st) (lS st) (h1 st) .none c0 gV gW gI dI es),sl⟩:=by k_is)(c:PySem.W.codeIn K dI cL=true:=by k_is)(k:PySem.W.keepIn K (.ref f)=true:=by k_is)(Y:YP "__init__" cL st ps:=by nofun):C:=go ⟨f,_,uq l c k,(uq l c k).binds Y⟩ (wR aW a2 a) ⟨c3,hd,po,EJ⟩ ⟨mk,akT,akU,akS⟩
def lr {A:Addr}(_:fo K A)(m:Str)(a:PySem.W.findIn K (.ref A) m=some none:=by k_is):fb K A m:=a
def akV {A:Addr}(c:fo K A)(a:PySem.W.findIn K (.ref A) "__eq__"=some (some (.builtin "object.__eq__")):=by k_is)(m:PySem.W.mroIn K A (.type "object")=some true:=by k_is):PlainEq K A:=⟨c,a,m⟩
def f0 (aW:K.In h)(a2:h.Ns mainGlobals am)(x:Str)(a:PySem.W.nsIn K mainGlobals x=some (some (.int i t)):=by k_is):fE am x i:=⟨t,wR aW a2 a⟩
def Wk (aW:K.In h)(a2:h.Ns mainGlobals am)(x:Str)(a:PySem.W.nsIn K mainGlobals x=some (some (.str y t)):=by k_is):B2 am x y:=⟨t,wR aW a2 a⟩
def kP (aW:K.In h)(a2:h.Ns mainGlobals am)(x:Str)(a:PySem.W.nsIn K mainGlobals x=some none:=by k_is):am x=none:=PySem.W.mg_none_of aW a2 a
def oK (x)(aW:K.In h)(a2:h.Ns mainGlobals am)(e:PySem.W.nsIn K mainGlobals x=some (some (.ref a)):=by k_is):am x=some (.ref a):=wR aW a2 e
def Wl (e:z_ u=some x):RelV x u:=by cases u<;>first|(cases e;rfl)|(cases e;exact⟨_,rfl⟩)|cases e
def wo:List Value->Option (List V)
 |[]=>some []
 |u::r=>(z_ u).bind λ x=>(wo r).map λ y=>x::y
theorem Wm:∀{us:List Value}{xs:List V},wo us=some xs->Vals xs us
 |[],_,e=>by cases e;exact .nil
 |u::r,xs,e=>by obtain⟨_,D,e⟩:=NE.mp e;obtain⟨_,G,e⟩:=lv.mp e;subst e;exact .cons (Wl D) (Wm G)
def Np (l:K.lookup a=some ⟨.type "tuple",e9,.seq aR.toArray n,sl⟩)(r:wo aR=some xs)(B:aR.length<=1000):dD K a xs:=⟨_,_,n,l,z,z,by rw[fk];exact cK B ⇑0,Wm r⟩
def Dy {x:Str}{a:Addr}{aR:List Value}{n:Nat}{xs:List V}(_:K.In h)(_:am x=some (.ref a))(l:K.lookup a=some ⟨.type "tuple",e9,.seq aR.toArray n,sl⟩:=by k_is)(r:wo aR=some xs:=by rfl)(B:aR.length<=1000:=by decide):dD K a xs:=Np l r B
def i4 {a b:Addr}{aR:List Value}{n:Nat}{xs ys:List V}(_:dD K b ys)(i:Nat)(_:ys[i]?=some (.ref a):=by rfl)(l:K.lookup a=some ⟨.type "tuple",e9,.seq aR.toArray n,sl⟩:=by k_is)(r:wo aR=some xs:=by rfl)(B:aR.length<=1000:=by decide):dD K a xs:=Np l r B
def lu {a b:Addr}{aR:List Value}{n:Nat}{xs:List V}{ys:List (Key×V)}{k:Key}(_:l5 K b ys)(i:Nat)(_:ys[i]?=some (k,.ref a):=by rfl)(l:K.lookup a=some ⟨.type "tuple",e9,.seq aR.toArray n,sl⟩:=by k_is)(r:wo aR=some xs:=by rfl)(B:aR.length<=1000:=by decide):dD K a xs:=Np l r B
def zu:List DictEntry->Option (List (Key×V))
 |[]=>some []
 |⟨B,.int i _,u⟩::r=>if B=hashInt i then(z_ u).bind λ x=>(zu r).map λ y=>(.inl i,x)::y else none
 |_=>none
theorem Wn (P:Program)(w:World):∀{ae:List DictEntry}{ks:List (Key×V)},zu ae=some ks->∃vs:List (Key×Value),e6 ks vs/\(∀e∈ae,∃k,(dT P w).is k e.key=true/\e.hash=(dT P w).hash k)/\Pairs (dT P w) ae vs/\vs.map (·.1)=ks.map (·.1)
 |[],_,e=>by cases e;exact⟨[],.nil,λ _ m=>by simp at m,.nil,z⟩
 |⟨B,q,u⟩::r,ks,e=>by
  cases q with
  |int i t=>
   unfold zu at e;split at e
   ·rename_i hz;obtain⟨x,D,e⟩:=NE.mp e;obtain⟨y,G,e⟩:=lv.mp e;subst e;obtain⟨vs,f3,cU,f5,qA⟩:=Wn P w G;have Wo:=Ot i t;refine⟨(.inl i,u)::vs,.cons ⟨z,Wl D⟩ f3,λ e m=>?_,.cons Wo z f5,by rw[bU,bU,qA]⟩;rcases bN.mp m with rfl|m
    ·exact⟨.inl i,Wo,hz⟩
    ·exact cU e m
   ·cases e
  |_=>unfold zu at e;cases e
def wq {x:Str}{a:Addr}{ae:List DictEntry}{n:Nat}{ks:List (Key×V)}(_:K.In h)(_:am x=some (.ref a))(l:K.lookup a=some ⟨.type "dict",none,.dict ae.toArray n,#[]⟩:=by k_is)(d:zu ae=some ks:=by rfl)(nd:(ks.map (·.1)).Nodup:=by decide)(au:(a==sysModules)=false:=by rfl):l5 K a ks:=⟨au,_,_,n,l,⟨z,z,z⟩,z,λ P w=>let ⟨vs,f3,cU,f5,qA⟩:=Wn P w d;⟨vs,f3,λ e m=>cU e ↥m,f5,by rw[qA];exact nd⟩⟩
def akW (af:dt K "answers" "answers" B1 ["calls"])(s)(us)(a1:us.length=(["calls"]:List Str).length):BindsTo s af.fd ⟨us,[]⟩ ((["calls"]:List Str).zip us):=by obtain⟨_,_,_,_,_,_,_,_,_,e,_,_⟩:=af.F.ex;rw[e];exact match us,a1 with|[_],_=>.of_eq z
end
end WP
end
end
namespace PySem.W.Fast
def U:=Nat
def tw7518311241303956656:=U
def tw16455946065552599231:=U
def tw7102145486005957305:=U
def tw11145985231634007110:=U
def tw13461003767443466703:=U
def tw2154829407915011708:=U
def tw17495395513673890733:=U
def tw14451011941272648969:=U
def tw7825929334162767050:=U
def tw2175000409880806125:=U
def tw9441839235804705580:=U
def tw2516352762777602265:=U
def tw1305106753031800470:=U
def tw18002160886780191289:=U
def tw3429616553756785584:=U
def tw5190881880564400565:=U
def tw9359512947534250127:=U
def tw9608324586759750150:=U
def tw16289751099311450006:=U
def tw7608044606120240268:=U
def tw14496572910504006773:=U
def tw5385984697051813490:=U
def tw7200524422649326068:=U
def tw244618683045640039:=U
def tw17002466619430610789:=U
def tw4602390428047001613:=U
def tw2317630653518300545:=U
def tw7469044405104887762:=U
def tw10989287622844604002:=U
def tw363395863749663570:=U
def tw15672096831450046479:=U
def tw16793458708509320960:=U
def tw6555651651420156879:=U
def tw13106953161893922491:=U
def tw17161286784084426594:=U
def tw1629668284532212775:=U
def tw2276285035691185660:=U
def tw5999070265036363184:=U
def tw17684972025916186150:=U
def tw17846388723934226151:=U
def tw1092253685149649202:=U
def tw14780399065957963634:=U
def tw937186400046301758:=U
def tw2348620021788171837:=U
def tw17611453413401138402:=U
def tw13098502876849937816:=U
def tw12399838628618059834:=U
def tw10826856997842980475:=U
def tw2128462182600043739:=U
def tw1482780389060126980:=U
def tw2865940517864089060:=U
def tw4578512707874593380:=U
def tw8299562297697105154:=U
def tw9152469956816637769:=U
def tw5679405645878156742:=U
def tw13481366519665409604:=U
def tw13692402301292516328:=U
def tw18040753475564118095:=U
def tw14872987781015137979:=U
def tw2297935692880829340:=U
def tw11484667608194872909:=U
def tw14430288707094712031:=U
def tw17340729958610399535:=U
def tw16786810093410200797:=U
def tw7538954331257265533:=U
def tw920719575438415860:=U
def tw12401043560560997510:=U
def tw1908509533852458531:=U
def tw11845615505164496745:=U
def tw2714621096689362043:=U
def tw4055368735030838174:=U
def tw5284071352862673624:=U
def tw10652632868751167234:=U
def tw3048366201820987482:=U
def tw15951602507093988593:=U
def tw8195898837216901453:=U
def tw11095439294490757906:=U
def tw10440850268113085460:=U
def tw11911143371203333260:=U
def tw14381007139961410940:=U
def tw16137711563157346630:=U
def tw16215851121231135171:=U
def tw13319266341525574317:=U
def tw3242446452270542967:=U
def tw523495586325827870:=U
def tw4276885519958428045:=U
def tw4331756773642166887:=U
def tw17540561088003040825:=U
def tw13889695831116194491:=U
def tw15795343109177062772:=U
def tw10064277829248355175:=U
def tw14645928838627810005:=U
def tw13853473274073291080:=U
def tw1221976875917697007:=U
def tw10765605960556004854:=U
def tw5893380633620162826:=U
def tw9502942144701013440:=U
def tw2694613362104445305:=U
def tw8387012308821162464:=U
def tw16369059812184040792:=U
def tw4652940217352831914:=U
def tw17289841538975230907:=U
def tw1958508479978702349:=U
def tw9444530714604027804:=U
def tw8420595737881973959:=U
def tw16596578403584078102:=U
def tw6946181630842060889:=U
def tw13433124481051913115:=U
def tw9685000228228014929:=U
def tw9795955996410297353:=U
def tw12870566779071739858:=U
def tw17584808755667979416:=U
def tw7478601694458306547:=U
def tw9669013455257565807:=U
def tw3920891517643517945:=U
def tw11838356881814518555:=U
def tw2770455610577885586:=U
def tw3866945519268483522:=U
def tw1164116793579665134:=U
def tw13053002594540060925:=U
def tw6971056764980382714:=U
def tw13582969145819775574:=U
def tw18426832017755436341:=U
def tw7994283079253656702:=U
def tw9177132983427280104:=U
def tw7951074292906494761:=U
def tw11905315162451910434:=U
def tw5716470668245545318:=U
def tw9945593888443608579:=U
def tw12097952339696133376:=U
def tw16130360214089605904:=U
def tw10888184427223302163:=U
def tw11361253959419654759:=U
def tw11538764197782466426:=U
def tw4344793425272495150:=U
def tw2702646604383183627:=U
def tw692764494138769194:=U
def tw14180373039361199845:=U
def tw8479780807422867890:=U
def tw16129945803196575364:=U
def tw575192331731213782:=U
def tw3468382495394467062:=U
def tw3373430374408733300:=U
def tw18201597955172585180:=U
def tw8788217355840775508:=U
def tw7404591515714067682:=U
def tw3780823872071155405:=U
def tw13097639941104658509:=U
def tw3236341252158747737:=U
def tw4549889154659654520:=U
def tw7681947489884899107:=U
def tw3269503199292028787:=U
def tw3047829801810266876:=U
def tw2299402960486107667:=U
def tw7472016846882882022:=U
def tw3896681403560275737:=U
def tw11517705785066530127:=U
def tw9975888900711969765:=U
def tw14804358089884919126:=U
def tw8844424577344324794:=U
def tw8374684104282804685:=U
def tw9993579715715518557:=U
def tw12948429216714840209:=U
def tw11218800138691938033:=U
def tw984228226090928331:=U
def tw13235467655707074953:=U
def tw8670754957497920942:=U
def tw16570904651748122531:=U
def tw3220111791511666018:=U
def tw15093723248675791474:=U
def tw2600022894107503692:=U
def tw10872916256630413362:=U
def tw13081766161868090129:=U
def tw204574126221035535:=U
def tw14599886774094113436:=U
def tw3990613173989466458:=U
def tw2976800668286723749:=U
def tw3130815449258803040:=U
def tw10821537495610953981:=U
def tw10107453563476965444:=U
def tw9515669985106099894:=U
def tw10825348618574716341:=U
def tw6749351809723995340:=U
def tw17391234040328359591:=U
def tw9966455360421363252:=U
def tw7158241829110133598:=U
def tw4715721811772176089:=U
def tw2911474613935809830:=U
def tw5852044753053936006:=U
def tw4279708967499166917:=U
def tw5188474927609453295:=U
def tw4943698551906554228:=U
def tw1195822535312490938:=U
def tw4161285206643697658:=U
def tw14642670539804765438:=U
def tw2236291293956433203:=U
def tw10351971121740567203:=U
def tw3339483820337326617:=U
def tw10929975384018321091:=U
def tw1298063387564479656:=U
def tw11304708701205361157:=U
def tw5248355861593235673:=U
def tw4873171890821418551:=U
def tw15861454023420769279:=U
def tw313137840021197926:=U
def tw11720570687096883928:=U
def tw6477075870984890664:=U
def tw830336552167418073:=U
def tw1610182040404333709:=U
def tw8372344326352368348:=U
def tw6659983187959620596:=U
def tw2704844034394819572:=U
def tw7281007288442523600:=U
def tw4551129314380461686:=U
def tw3638707990535391745:=U
def tw17775587887751685836:=U
def tw14668457408470803034:=U
def tw16745081609735572705:=U
def tw8542861356358819038:=U
def tw9810015088626692976:=U
def tw13825514016277018639:=U
def tw14496165575617969908:=U
def tw7087541904004633074:=U
def tw13057328260613830823:=U
def tw9935930496875563737:=U
def tw1268285853032742966:=U
def tw4007977879420271825:=U
def tw743904629547239202:=U
def tw10189683108647771266:=U
def tw5776559129128655739:=U
def tw6127116027885695028:=U
def tw11650429981955740096:=U
def tw15548284891010473074:=U
def tw18051931094857396143:=U
def tw403900189241208104:=U
def tw10706925069252036944:=U
def tw10770407261842424831:=U
def tw11278694587953563752:=U
def tw9855145167809960155:=U
def tw16087049245441240523:=U
def tw986469537804174611:=U
def tw1873342912788258028:=U
def tw4301299429022831301:=U
def tw3534241071181089389:=U
def tw3661133551818328846:=U
def tw11285489177773979385:=U
def tw18418819788905755951:=U
def tw14485311251799082075:=U
def tw69258640997223750:=U
def tw17075001519503245307:=U
def tw9541311398200653484:=U
def tw9673883354957403610:=U
def tw5434022968944427299:=U
def tw10841133053999739526:=U
def tw10204050482666990884:=U
def tw15714156756015633370:=U
def tw5472374641056630397:=U
def tw18384580244807166365:=U
def tw938414997122967209:=U
def tw6567699863252516296:=U
def tw8370751573923988868:=U
def tw17522224002280439424:=U
def tw16383451738750623575:=U
def tw15682331180578879757:=U
def tw12263663481074736987:=U
def tw4203750029583107372:=U
def tw4135794584073271994:=U
def tw2087907530653319282:=U
def tw6055706583617730701:=U
def tw3377546825671238057:=U
def tw11340187444248458289:=U
def tw13641799998769038744:=U
def tw16445734055257643049:=U
def tw6815156634943179905:=U
def tw2487154428787858147:=U
def tw3014721014964833662:=U
def tw13401530955445486133:=U
def tw12721331990123303320:=U
def tw13461352097117722139:=U
def tw14038160041305335807:=U
def tw14132179846916506941:=U
def tw3222349049984561171:=U
def tw13981566162648513514:=U
def tw17427026537722614132:=U
def tw17206823077565875888:=U
def tw691790982902515323:=U
def tw15103659897213043059:=U
def tw1328599728062090442:=U
def tw6180402135671118970:=U
def tw4050857125620745452:=U
def tw3157526689955440320:=U
def tw2884676111024933846:=U
def tw11623600264232792315:=U
def tw11116300166311422662:=U
def tw11427831079062699579:=U
def tw1862265200282246479:=U
def tw11521621864853842116:=U
def tw15320772011848486779:=U
def tw16466164119475678222:=U
def tw8571636695309793463:=U
def tw14016981324793748889:=U
def tw1737998554255539918:=U
def tw10007202268746752121:=U
def tw7968341133723019655:=U
def tw1803592306625384884:=U
def tw11611730525091015893:=U
def tw2696539551813338594:=U
def tw11993685860327570380:=U
def tw13046826310162379472:=U
def tw3121676955663094471:=U
def tw1423994158775064267:=U
def tw10145992499715300115:=U
def tw1600311242137980277:=U
def tw7496819802251450588:=U
def tw3387685064738674313:=U
def tw14508760632761427919:=U
def tw7606764328732118007:=U
def tw4369368503079273540:=U
def tw2367285703707325836:=U
def tw8136086038543180442:=U
def tw1190439158909032932:=U
def tw9895193088398033253:=U
def tw3954432495688784933:=U
def tw13147988688585679765:=U
def tw13018013546266280375:=U
def tw12636977025494568427:=U
end PySem.W.Fast
section
open PySem PySem.W PyProof.Rows WP
set_option maxRecDepth 100000 in
set_option maxHeartbeats 0 in
theorem PySem.Challenge.cw_worldtold_s01_answers_holds : PySem.Challenge.rw_worldtold_s01_answers.Holds := by
 w_on;k_headS;(case hw=>exact⟨[.list [.int 4]],by decide+kernel,by decide+kernel⟩)
 k_fillS
 refine ef.aak (r:=PySem.Challenge.rw_worldtold_s01_answers) (k:=17) (CX:=ef.h2) (ps:=["calls"]) (sp:=Wb) (by decide+kernel) z z ⟨z,by decide,by decide⟩ (λ w h xP=>PySem.W.kIn_of xP) ?F ?S (λ _ _ _ _ B=>B)
 case F=>
  intro w am cg h xP aW a2 FN;refine cO aW a2 Hj "steps_up" uT λ qK yk=>?_;refine cO aW a2 Hk "steps_to" G2 λ sB B3=>?_;refine cO aW a2 Hm "names_above" uT λ sC B4=>?_;refine cO aW a2 Ho "kinds_up" ng λ j4 l'=>?_;refine cO aW a2 Hp "nearest_saying" G3 λ qL yl=>?_;refine cO aW a2 Hr "names_about" ["told","forms"] λ qM ym=>?_;refine cO aW a2 Ht "is_there" ng λ pv u3=>?_;refine cO aW a2 Hu "is_let" BE λ qN yn=>?_;refine cO aW a2 Hv "has_kind" nh λ pw u4=>?_;refine cO aW a2 Hw "kind_of" nh λ ma px=>?_;refine cO aW a2 Hx "is_founded" oe λ u5 I6=>?_;refine cO aW a2 Hy "unfounded_lines" ga λ sD B5=>?_;refine cO aW a2 HA "held_by" BG λ sF B6=>?_;refine cO aW a2 HB "held" G4 λ held yo=>?_;refine cO aW a2 HC "kinds_from" BH λ u6 I7=>?_;refine cO aW a2 HD "reasons" G5 λ reasons I8=>?_;refine cO aW a2 HF "text_of" l_ λ jp lg=>?_;refine cO aW a2 HG "row_of" ["text"] λ qO yp=>?_;refine cO aW a2 HI "is_name" ["word"] λ u7 I9=>?_;refine cO aW a2 HK "is_number" ["word"] λ u9 I_=>?_;refine cO aW a2 HL "fits" BJ λ fits I'=>?_;refine cO aW a2 HM "fill" ["shape","words"] λ fill Ja=>?_;refine cO aW a2 HN "read_sentence" l_ λ sG B7=>?_;refine cO aW a2 HO "shape_of" uU λ u_ Jb=>?_;refine cO aW a2 HQ "written" uU λ written Jc=>?_;refine cO aW a2 HR "each_once" ["names"] λ sH B8=>?_;refine cO aW a2 HT "definite_words" G6 λ u' Jd=>?_;refine cO aW a2 HU "first_contrary" ["told","words"] λ va Je=>?_;refine cO aW a2 HV "tear_of" ["told"] λ sI B9=>?_;refine cO aW a2 HW "are_torn" ga λ sJ B_=>?_;refine cO aW a2 HX "first_tear" ga λ vb Jf=>?_;refine cO aW a2 HY "way_by_itself" ["line"] λ vc Jg=>?_;refine cO aW a2 HZ "parts_of" ["line"] λ sK B'=>?_;refine cO aW a2 H2 "other_part" ["played","line"] λ vd Jh=>?_;refine cO aW a2 H3 "contrary_line" oe λ ve Ji=>?_;refine cO aW a2 H4 "ring_of" oe λ vf Jj=>?_;refine cO aW a2 H5 "clash_with" G7 λ vg Jk=>?_;refine cO aW a2 H6 "clash_but_tear" ga λ vh Jl=>?_;refine cO aW a2 H7 "clash_of" ga λ qP yq=>?_;refine cO aW a2 H8 "makes_world" ga λ og sL=>?_;refine cO aW a2 H9 "words_let" G8 λ qQ yr=>?_;refine cO aW a2 H_ "form_of_kind" ng λ vi Jm=>?_;refine cO aW a2 H' "form_of_thing" nh λ vj Jn=>?_;refine cO aW a2 Ia "one_form" ga λ qR yt=>?_;refine cO aW a2 Ib "are_bytes" ["row","longest"] λ qS yu=>?_;refine cO aW a2 Ie "are_line_numbers" ["numbers"] λ sM Ca=>?_;refine cO aW a2 Ih "refusal_of_lines" G9 λ sN Cb=>?_;refine cO aW a2 Ij "refusal_in_world" G_ λ qT yv=>?_;refine cO aW a2 Il "refusal_of_kind" j3 λ sO Cc=>?_;refine cO aW a2 Im "refusal_of_thing" G' λ qU yw=>?_;refine cO aW a2 Io "refusal_of_word" Ha λ vk Jo=>?_;refine cO aW a2 Iq "as_names" ["names"] λ qV yx=>?_;refine cO aW a2 It "kind_answer" j3 λ vl Jp=>?_;refine cO aW a2 Iu "chain_answer" j3 λ vm Jq=>?_;refine cO aW a2 Iv "held_answer" Hb λ sP Cd=>?_;refine cO aW a2 Iw "place_answer" j3 λ vn Jr=>?_;refine cO aW a2 Ix "things_answer" j3 λ vo Js=>?_;refine cO aW a2 Iy "parted" l_ λ parted Jt=>?_;refine cO aW a2 IA "read_page" l_ λ m7 Ce=>?_;refine cO aW a2 IB "bytes_of" ga λ py vp=>?_;refine cO aW a2 I3 "answer_to_row" BN λ vL Ju=>?_;refine cO aW a2 I4 "answer_to_bare" BO λ vM Jv=>?_;refine cO aW a2 I5 "answer" Hd λ answer Jw=>?_;refine cO aW a2 B1 "answers" ["calls"] λ answers Jx=>?_;refine zt aW a2 He "Told" "Told.__init__" ["self","lines"] λ hk j5 c4 j6=>?_;have oi:=lr c4 "lines";have vN:=lr c4 "numbers";have yy:=lr c4 "firsts";refine gm c4 BP "tell" "Told.tell" ["self","line"] λ sA Cf=>?_;refine gm c4 Hf "line" "Told.line" sv λ hI iZ=>?_;refine gm c4 Hg "all_about" "Told.all_about" qF λ qI yz=>?_;refine gm c4 Hh "first_about" "Told.first_about" qF λ jo lh=>?_;refine gm c4 Hi "first_saying" "Told.first_saying" BD λ qJ yA=>?_;refine zt aW a2 Hz "Held" "Held.__init__" BF λ sE Cg jq Ch=>?_;have vO:=lr jq "said";have yB:=lr jq "how";have vP:=lr jq "source";refine zt aW a2 BS "Sentence" "Sentence.__init__" BI λ lf oj bB om=>?_;have gN:=lr bB "form";have ia:=lr bB "about";have gO:=lr bB "other";have oo:=lr bB "said";have K8:=akV bB;refine zt aW a2 ID "Tape" "Tape.__init__" sx λ vq Jy f6 Jz=>?_;have vQ:=lr f6 "numbers";have pz:=lr f6 "taken";refine gm f6 IE "at_end" "Tape.at_end" eS λ vr JA=>?_;refine gm f6 IF "take_one" "Tape.take_one" eS λ oh sQ=>?_;refine gm f6 IG "take_row" "Tape.take_row" eS λ qW yC=>?_;refine zt aW a2 II "Desk" "Desk.__init__" eS λ vt JB cI JC=>?_;have fF:=lr cI "lines";refine gm cI IJ "text" "Desk.text" pu λ vu JD=>?_;refine gm cI IK "add" "Desk.add" pu λ vv JE=>?_;refine gm cI IL "cut" "Desk.cut" sv λ vw JF=>?_;refine gm cI IM "swap" "Desk.swap" Hc λ vx JG=>?_;refine gm cI IP "clash" "Desk.clash" eS λ vy JH=>?_;refine gm cI IQ "lacking" "Desk.lacking" eS λ vz JI=>?_;refine gm cI IR "makes" "Desk.makes" eS λ vA JJ=>?_;refine gm cI IS "shown" "Desk.shown" eS λ vB JK=>?_;refine gm cI IT "normal" "Desk.normal" eS λ vC JL=>?_;refine gm cI IU "kind" "Desk.kind" qG λ vD JM=>?_;refine gm cI IV "chain" "Desk.chain" qH λ vE JN=>?_;refine gm cI IW "is_so" "Desk.is_so" BL λ vF JO=>?_;refine gm cI IX "number" "Desk.number" BM λ vG JP=>?_;refine gm cI IY "place" "Desk.place" qG λ vH JQ=>?_;refine gm cI IZ "things" "Desk.things" qH λ vI JR=>?_;refine gm cI I0 "same" "Desk.same" pu λ vJ JS=>?_;refine gm cI I2 "alone" "Desk.alone" sx λ vK JT=>?_;have sR:=f0 aW a2 "KIND";have ot:=f0 aW a2 "OVER";have sS:=f0 aW a2 "CAN_BE";have sT:=f0 aW a2 "HAS";have mb:=f0 aW a2 "IS_A";have sU:=f0 aW a2 "IS";have yD:=f0 aW a2 "EVERY";have JU:=f0 aW a2 "USUALLY";have Ci:=f0 aW a2 "NUMBER";have sV:=f0 aW a2 "IN";have Ck:=f0 aW a2 "TOLD";have Cm:=f0 aW a2 "NOT_SAID";have J3:=Wk aW a2 "SIGNS";have J4:=Wk aW a2 "LETTERS";have yG:=f0 aW a2 "LONGEST_NAME";have Ct:=f0 aW a2 "LARGEST_NUMBER";have Cu:=f0 aW a2 "TWO_PARTS";have Kx:=f0 aW a2 "TORN";have vT:=f0 aW a2 "MOST_LINES";have Cx:=f0 aW a2 "LONGEST_TEXT";have K0:=f0 aW a2 "LONGEST_SENTENCE";have K1:=f0 aW a2 "LARGEST_BYTE";have sW:=f0 aW a2 "OUT_OF_RANGE";have K2:=f0 aW a2 "NO_SUCH_LINE";have K3:=f0 aW a2 "NO_SENTENCE";have Cy:=f0 aW a2 "NO_WORLD";have Cz:=f0 aW a2 "NOT_THERE";have K4:=f0 aW a2 "NOT_LET";have K5:=f0 aW a2 "TEXT_FULL";have CA:=f0 aW a2 "LINE_END";have K9:=kP aW a2 "abs";have vW:=kP aW a2 "all";have K_:=kP aW a2 "any";have K':=kP aW a2 "dict";have CD:=kP aW a2 "enumerate";have yJ:=kP aW a2 "int";have eu:=kP aW a2 "len";have CE:=kP aW a2 "list";have La:=kP aW a2 "min";have CF:=kP aW a2 "ord";have yK:=kP aW a2 "set";have sX:=kP aW a2 "sorted";have yL:=kP aW a2 "str";have Lb:=kP aW a2 "zip";have Cj:=oK "LETTING" aW a2;have JV:=wq aW Cj;have Cn:=oK "TELLING" aW a2;have JW:=wq aW Cn;have Co:=oK "SAYING" aW a2;have yF:=wq aW Co;have yE:=lu yF 0;have Cr:=lu yF 1;have JY:=i4 yE 0;have J0:=i4 yE 1;have J2:=i4 Cr 0;have Cs:=oK "WORDS" aW a2;have J6:=Dy aW Cs;have yH:=oK "SHAPES" aW a2;have hJ:=Dy aW yH;have J8:=i4 hJ 0;have J_:=i4 hJ 1;have Ka:=i4 hJ 2;have Kc:=i4 hJ 3;have Ke:=i4 hJ 4;have Kg:=i4 hJ 5;have Ki:=i4 hJ 6;have Kk:=i4 hJ 7;have Km:=i4 hJ 8;have Ko:=i4 hJ 9;have Kq:=i4 hJ 10;have Ks:=i4 hJ 11;have Ku:=i4 hJ 12;have Kw:=i4 hJ 13;have Cv:=oK "CONTRARY_WAYS" aW a2;have Ky:=wq aW Cv;have vS:=oK "RING_WAYS" aW a2;have yI:=wq aW vS;have Cw:=oK "PARTS" aW a2;have kC:=wq aW Cw;have KA:=lu kC 0;have KD:=lu kC 1;have KG:=lu kC 2;have KI:=lu kC 3;have KL:=lu kC 4;have KO:=lu kC 5;have KQ:=lu kC 6;have KS:=lu kC 7;have KV:=lu kC 8;have KX:=lu kC 9;have KZ:=lu kC 10;have CB:=oK "BARE_CALLS" aW a2;have K7:=Dy aW CB;have CC:=oK "ROW_CALLS" aW a2;have vV:=Dy aW CC;have T:e3 _ am:=⟨⟨⟨hk,sA,hI,qI,jo,qJ,qK,yk,sB,B3,sC,B4,j4,l',qL,yl,qM,ym,pv,u3,qN,yn,pw,u4,ma,px,u5,I6,sD,B5,sE,sF,B6,held,yo,u6,I7,reasons,I8,lf,jp,lg,qO,yp,u7,I9,u9,I_,fits,I',fill,Ja,sG,B7,u_,Jb,written,Jc,sH,B8,u',Jd,va,Je,sI,B9,sJ,B_,vb,Jf,vc,Jg,sK,B',vd,Jh,ve,Ji,vf,Jj,vg,Jk,vh,Jl,qP,yq,og,sL,qQ,yr,vi,Jm,vj,Jn,qR,yt,qS,yu,sM,Ca,sN,Cb,qT,yv,sO,Cc,qU,yw,vk,Jo,qV,yx,vl,Jp,vm,Jq,sP,Cd,vn,Jr,vo,Js,parted,Jt,m7,Ce,py,vp,vq,vr,oh,qW,vt,vu,vv,vw,vx,vy,vz,vA,vB,vC,vD,vE,vF,vG,vH,vI,vJ,vK,vL,Ju,vM,Jv,answer,Jw,answers,Jx⟩,_,c4,j5,j6,oi,vN,yy,Cf,iZ,yz,lh,yA,_,jq,Cg,Ch,vO,yB,vP,_,bB,oj,om,gN,ia,gO,oo,_,f6,Jy,Jz,vQ,pz,JA,sQ,yC,_,cI,JB,JC,fF,JD,JE,JF,JG,JH,JI,JJ,JK,JL,JM,JN,JO,JP,JQ,JR,JS,JT⟩,sR,ot,sS,sT,mb,sU,yD,JU,Ci,sV,_,Cj,JV,Ck,Cm,_,Cn,JW,_,Co,_,_,JY,_,J0,yE,_,_,J2,Cr,yF,J3,J4,_,Cs,J6,yG,Ct,_,yH,_,J8,_,J_,_,Ka,_,Kc,_,Ke,_,Kg,_,Ki,_,Kk,_,Km,_,Ko,_,Kq,_,Ks,_,Ku,_,Kw,hJ,Cu,Kx,_,Cv,Ky,_,vS,yI,_,Cw,_,KA,_,KD,_,KG,_,KI,_,KL,_,KO,_,KQ,_,KS,_,KV,_,KX,_,KZ,kC,vT,Cx,K0,K1,sW,K2,K3,Cy,Cz,K4,K5,CA,_,CB,K7,_,CC,vV,K8,K9,vW,K_,K',CD,yJ,eu,CE,La,CF,yK,sX,yL,Lb⟩;have e:=FN.symm.trans T.Jx;injection e with e
  injection e with e;subst e;exact⟨T.answers.fd,akW T.answers,λ base _ _=>akB T⟩
 case S=>
  intro K H xs a jT FO No aa;cases aa with
  |cons D G=>
   cases G;cases D with
   |lst au az=>have e:=ef.Qx a.1 _ az;subst e;exact⟨_,a.1,z,au,No,λ r J _ _ ar=>.lst (ef.aG.of ar) (ef.Qw _)⟩
end
