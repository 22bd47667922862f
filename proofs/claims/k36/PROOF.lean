import PyProof.Rows.All
import Wide.All
import OpenK.AllK
import Wide.FinOn
import PyProof.EqAt
import PyProof.EqKinds
import PyProof.TupleCall
import KE.KStateDown
import KE.KCallOwn
import HandS.ForExc
import HandS.Wide
import HandS.Gcd
import HandS.Defaults
import HandS.IsInst
import HandS.ExcInit
import HandS.ExcField
import HandS.ExcIs
import HandS.FStr
import HandS.Codes
import HandS.Dict
import HandS.Head0
import HandS.Head1
import HandS.Head2
import HandS.Head3
import HandS.HeadEnd
import HandS.HeadHook1
import HandS.HeadHook2
import KE.KExcIs
import KE.KOpsOwn
import PyProof.FactsAll.int_1
import PyProof.FactsAll.int_2
import PyProof.FactsAll.int_3
import PyProof.FactsAll.int_5
import HandS.TryOnly
import HandS.Small
import PyProof.FactsAll.str_1
import PyProof.FactsAll.tuple_1
import PyProof.FactsAll.list_1
import PyProof.FactsAll.dict_1
import PyProof.FactsAll.bool_1
import PyProof.FactsAll.NoneType_1
import HandS.OwnEq
import HandS.Comp
import HandS.Walk
import HandS.MakeKwOnly
import HandS.MakeKw
import PyProof.Rows.StrIn
import KE.GoesMore
import HandS.DictComp
import HandS.Property
import HandS.DeepEq
import KE.KEqDict
import PyProof.NeKinds
import HandS.Exc
import HandS.SetFor
import HandS.Conv
import PyProof.CompUse
import KE.GoesEnumKw
import PyProof.Rows.CallKwBuiltin
import HandS.WordsDict
import HandS.TupAny
import PySem.Challenge.RW_seenshares_k36_whole_texts_read_back
set_option Elab.async false
set_option linter.all false
set_option maxRecDepth 100000
set_option maxHeartbeats 2000000
namespace Vf
open PySem PySem.Spec PyProof.Rows L2
/-! ### defs at their places -/
abbrev Pl : Type := Str × Option Str
structure OkD (P : Program) (w : World) (K : PySem.W.Frag) (mg : Str → Option Value) (base : Heap) (CX : CXT) (k : Nat) (p : Pl) (ps : List Str) (dvs : List V) (sp : Sp) : Prop where
  ex : ∃ fd ds, FnOk P w K mg base CX k (He.fAd K p) fd ps sp ∧ Binds K fd ps ds ∧ Vals dvs ds
  kp : PySem.W.keepIn K (.ref (He.fAd K p)) = true
section
variable {X : Cx} {CX : CXT} {k j : Nat} {ps : List Str} {sp : Sp} {dvs : List V} {x m : Str} {p pos apos : Pos} {e o : Expr} {es : List Expr} {ta : TE} {t : TA}
theorem c_fn {E : XK} (O : OkD X.prog X.w X.K X.mg X.base CX k (x, none) ps dvs sp) (hr : Room j X.A) (hj : k ≤ j) (hm : X.mg x = some (.ref (He.ga X.K x))) (hx : Passes CX X E) (ha : PA X (e :: es) t) (hg : Gl X x := by rfl)
    (hdb : (x == ("__debug__" : Str)) = false := by decide) (he : starEach (e :: es) X.env = (false, eval e X.env) :: starEach es X.env := by rfl) (hpl : (backTo pos (starEach es X.env)).any (·.1) = false := by rfl) :
    PE X (.Call (.Name x p) (e :: es) [] pos) (tCall sp dvs E t) := by
  obtain ⟨fd, ds, F, b, v⟩ := O.ex
  exact pe_call F (hr.mono hj) hg hm O.kp b v hx ha hdb he hpl
theorem c_fnS {E : L2.St → XK} (O : OkD X.prog X.w X.K X.mg X.base CX k (x, none) ps [] sp) (hr : Room j X.A) (hj : k ≤ j) (hm : X.mg x = some (.ref (He.ga X.K x))) (hx : ∀ σ, PassesAt CX X σ (E σ)) (ha : PA X (e :: es) t) (hg : Gl X x := by rfl)
    (hdb : (x == ("__debug__" : Str)) = false := by decide) (he : starEach (e :: es) X.env = (false, eval e X.env) :: starEach es X.env := by rfl) (hpl : (backTo pos (starEach es X.env)).any (·.1) = false := by rfl) :
    PE X (.Call (.Name x p) (e :: es) [] pos) (tCallS sp E t) := by
  obtain ⟨fd, ds, F, b, v⟩ := O.ex
  cases v
  exact pe_callS F (hr.mono hj) hg hm O.kp b hx ha hdb he hpl
theorem mk_of {K : PySem.W.Frag} {x : Str} (c : (He.Fa.mkr x).ok K = true) : Mk K (He.ga K x) (He.fAd K (x, some "__init__")) := by
  obtain ⟨h1, h2⟩ := He.ba c
  obtain ⟨h2, h3⟩ := He.ba h2
  obtain ⟨h3, h4⟩ := He.ba h3
  exact ⟨h1, He.eqO_ok h2, h3, h4⟩
theorem meth_of {K : PySem.W.Frag} {x m : Str} (c : (He.Fa.meth x m).ok K = true) : Meth K (He.ga K x) m (He.fAd K (x, some m)) := by
  obtain ⟨h1, h2⟩ := He.ba c
  obtain ⟨h2, h3⟩ := He.ba h2
  exact ⟨He.eqO_ok h1, h2, h3⟩
theorem cls_of {K : PySem.W.Frag} {x : Str} (c : (He.Fa.cls x).ok K = true) : Cls K (He.ga K x) := by
  obtain ⟨h1, h2⟩ := He.ba c
  obtain ⟨h2, h3⟩ := He.ba h2
  obtain ⟨h3, h4⟩ := He.ba h3
  exact ⟨h1, h2, h3, He.eqO_ok h4⟩
theorem noat_of {K : PySem.W.Frag} {x f : Str} (c : (He.Fa.noat x f).ok K = true) : NoAttr K (He.ga K x) f := He.eqO_ok c
/-- C(e, ..) -/
theorem c_mk {E : XK} {C : Addr} (M : Mk X.K C (He.fAd X.K (x, some "__init__"))) (O : OkD X.prog X.w X.K X.mg X.base CX k (x, some "__init__") ps dvs sp) (hr : Room j X.A) (hj : k + 1 ≤ j) (hm : X.mg x = some (.ref C)) (hx : Passes CX X E) (ha : PA X (e :: es) t) (hg : Gl X x := by rfl)
    (hdb : (x == ("__debug__" : Str)) = false := by decide) (he : starEach (e :: es) X.env = (false, eval e X.env) :: starEach es X.env := by rfl) (hpl : (backTo pos (starEach es X.env)).any (·.1) = false := by rfl) :
    PE X (.Call (.Name x p) (e :: es) [] pos) (tMake C sp dvs E t) := by
  obtain ⟨fd, ds, F, b, v⟩ := O.ex
  exact pe_make M F (hr.mono hj) hg hm b v hx ha hdb he hpl
/-- o.m() -/
theorem c_me0 {E : XK} {C : Addr} {cn : Str} (hC : C = He.ga X.K cn) (he : PE X o ta) (c : Cls X.K C) (hm : Meth X.K C m (He.fAd X.K (cn, some m))) (O : OkD X.prog X.w X.K X.mg X.base CX k (cn, some m) ps dvs sp) (hr : Room j X.A) (hj : k ≤ j) (hx : Passes CX X E) {pl : Sem Bool}
    (ht : eval (.Call (.Attribute o m apos) [] [] pos) X.env = (do
      let ov ← eval o X.env
      standAt apos.atName
      let (f, first) ← holding [ov] (getMethod ov m pl)
      callWith pos f first (backTo pos (starEach [] X.env)) (backToKw pos (keywordEach [] X.env))) := by rfl) :
    PE X (.Call (.Attribute o m apos) [] [] pos) (tMeth C m sp dvs E ta tNil) := by
  obtain ⟨fd, ds, F, b, v⟩ := O.ex
  exact pe_meth0 he c hm F (hr.mono hj) b v hx ht
theorem c_me {E : XK} {C : Addr} {cn : Str} (hC : C = He.ga X.K cn) (hb : PE X o ta) (c : Cls X.K C) (hm : Meth X.K C m (He.fAd X.K (cn, some m))) (O : OkD X.prog X.w X.K X.mg X.base CX k (cn, some m) ps dvs sp) (hr : Room j X.A) (hj : k ≤ j) (hx : Passes CX X E) (ha : PA X (e :: es) t) {pl : Sem Bool}
    (hst : starEach (e :: es) X.env = (false, eval e X.env) :: starEach es X.env := by rfl) (hpl : (backTo pos (starEach es X.env)).any (·.1) = false := by rfl)
    (ht : eval (.Call (.Attribute o m apos) (e :: es) [] pos) X.env = (do
      let ov ← eval o X.env
      standAt apos.atName
      let (f, first) ← holding [ov] (getMethod ov m pl)
      callWith pos f first (backTo pos (starEach (e :: es) X.env)) (backToKw pos (keywordEach [] X.env))) := by rfl) :
    PE X (.Call (.Attribute o m apos) (e :: es) [] pos) (tMeth C m sp dvs E ta t) := by
  obtain ⟨fd, ds, F, b, v⟩ := O.ex
  exact pe_meth hb c hm F (hr.mono hj) b v hx ha hst hpl ht
end
/-! ### a try's body whose errors are wished for at any slots -/
theorem passAny {X : Cx} {W : WX} (n : Nat) (tk : Takes X W) (hn : X.N.length = n := by rfl) : Passes (L2.CX X.prog X.w) X (fun cls d H => ∀ σ : L2.St, σ.length = n → W cls d σ H) :=
  fun _ σ _ _ e s' I c => tk e s' (XE.of_call I (fun _ _ _ h => h σ (I.len.trans hn)) c)
/-! ### operators -/
section
variable {X : Cx}
/-- // by any divisor but 0 below 2 ^ 9000 -/
theorem op_fdivG : OpR X (binaryOp .FloorDiv) (rI (fun _ j => j ≠ 0 ∧ j.natAbs.log2 < 9000) fun i j => .int (i.fdiv j)) := opI fun i j _ _ _ _ _ hc q => floordiv_int hc.1 q (.inl (PyProof.noPylong_of_log2 hc.2))
/-- a built-in class as a value -/
theorem pe_ty {x : Str} {n : String} {pos : Pos} (hm : X.mg x = none) (hv : bootBuiltins x = some (.type n)) (hg : Gl X x := by rfl) (hn : x ≠ "__name__" := by decide) (hd : (x == ("__debug__" : Str)) = false := by decide) : PE X (.Name x pos) (tC (.ty n)) := pe_bltn hg hm hv rfl hn hd
/-- a class of the text as a value -/
theorem pe_cl {x : Str} {a : Addr} {pos : Pos} (hm : X.mg x = some (.ref a)) (hg : Gl X x := by rfl) (hd : (x == ("__debug__" : Str)) = false := by decide) : PE X (.Name x pos) (tC (.ref a)) := pe_glob hg hm rfl hd
/-- str(o), o of a class of the text that has its own __str__ -/
def rStrO (C : Addr) (sp : Sp) : List V → Hp → VK → Prop := fun xs H Q => ∃ a dx fs, xs = [.ref a] ∧ H a = some (.ins C dx fs) ∧ sp [.ref a] H (fun v H' => ∃ z, v = .str z ∧ Q (.str z) H') fun _ _ _ => False
theorem call_strO {k j : Nat} {C : Addr} {cn : Str} {ps : List Str} {sp : Sp} (hC : C = He.ga X.K cn) (hm : Meth X.K C "__str__" (He.fAd X.K (cn, some "__str__"))) (O : OkD X.prog X.w X.K X.mg X.base CX0 k (cn, some "__str__") ps [] sp) (hr : Room j X.A) (hj : k + 2 ≤ j) :
    CallR X (.type "str") (rStrO C sp) := by
  obtain ⟨fd, ds, F, b, v⟩ := O.ex
  cases v
  intro pins s σ H xs us Q I r h
  obtain ⟨a, dx, fs, rfl, ha, hsp⟩ := h
  obtain ⟨u, rfl, ru⟩ : ∃ u, us = [u] ∧ RelV (.ref a) u := by
    cases r with
    | cons p q => cases q; exact ⟨_, rfl, p⟩
  cases ru
  obtain ⟨mA, J, _⟩ := ins_get I.hok ha
  obtain ⟨od, J, _⟩ := J.look
  have hr2 : Room k X.A.in1.in1 := ((hr.mono hj).in1).in1
  refine PySem.W.kso_call hr2.units0 I.kIn J hm.at_ hm.fn ?_
  have hl := F.len _ _ _ _ hsp
  have hb := b s [.ref a] I.kIn (by simpa using hl)
  simp only [List.append_nil] at hb
  refine wpAny_call (codeAny_mono (F.run X.A.in1.in1 X.stack s H ⟨[.ref a], []⟩ [.ref a] [.ref a] _ _ hr2 I.env0.in1.in1 hb (.cons rfl .nil) hsp) fun r s' hq => ?_)
  cases r with
  | error e => exact hq.elim
  | ok fl =>
    cases fl with
    | ret w =>
      obtain ⟨z, H', I', rz, y, ez, q⟩ := I.after hq
      subst ez
      obtain ⟨tk, rfl⟩ := rz
      exact ⟨.str y, H', I', ⟨tk, rfl⟩, q⟩
    | next => exact False.elim hq
    | brk => exact False.elim hq
    | cont => exact False.elim hq
end
end Vf

set_option Elab.async false
set_option linter.all false
set_option maxRecDepth 100000
set_option maxHeartbeats 2000000
namespace Vf
open PySem PySem.Spec PyProof.Rows L2
/-! ### ints and other values -/
/-- a value that is no integer -/
inductive Odd (H : Hp) : V → Prop where
  | bl (b : Bool) : Odd H (.bl b)
  | non : Odd H .non
  | str (z : Str) : Odd H (.str z)
  | tup {a : Addr} {xs : List V} (h : H a = some (.tup xs)) : Odd H (.ref a)
  | lst {a : Addr} {xs : List V} (h : H a = some (.lst xs)) : Odd H (.ref a)
  | dic {a : Addr} {kvs : List (Key × V)} (h : H a = some (.dK kvs)) : Odd H (.ref a)
theorem Odd.ext {H H' : Hp} {x : V} (o : Odd H x) (s : Same H H') : Odd H' x := by
  cases o with
  | bl b => exact .bl b
  | non => exact .non
  | str z => exact .str z
  | tup h => exact .tup (s _ _ h)
  | lst h => exact .lst (s _ _ h)
  | dic h => exact .dic (s _ _ h)
theorem odd_ty (K : PySem.W.Frag) {H : Hp} {x : V} (o : Odd H x) : ∃ (n : String) (b1 b2 : Bool), TyX K H x (.type n) ∧ kitB n "int" = some b1 ∧ kitB n "bool" = some b2 ∧ (b1 && !b2) = false := by
  cases o with
  | bl b => exact ⟨"bool", true, true, .base (.bl b), by decide +kernel, by decide +kernel, rfl⟩
  | non => exact ⟨"NoneType", false, false, .base .non, by decide +kernel, by decide +kernel, rfl⟩
  | str z => exact ⟨"str", false, false, .base (.str z), by decide +kernel, by decide +kernel, rfl⟩
  | tup h => exact ⟨"tuple", false, false, .base (.tup h), by decide +kernel, by decide +kernel, rfl⟩
  | lst h => exact ⟨"list", false, false, .base (.lst h), by decide +kernel, by decide +kernel, rfl⟩
  | dic h => exact ⟨"dict", false, false, .base (.dK h), by decide +kernel, by decide +kernel, rfl⟩
theorem int_ty (K : PySem.W.Frag) (H : Hp) (n : Int) : TyX K H (.int n) (.type "int") ∧ kitB "int" "int" = some true ∧ kitB "int" "bool" = some false :=
  ⟨.base (.int n), by decide +kernel, by decide +kernel⟩
/-- is_integer(x) -/
def spIsInt : Sp := fun vs H Q _ => ∃ x, vs = [x] ∧ (((∃ n, x = .int n) ∧ Q (.bl true) H) ∨ (Odd H x ∧ Q (.bl false) H))
def t_isint (K : PySem.W.Frag) : TS := tRet (tAndV (tCB (rIsi K) (tCons (tVar 0) (tCons (tC (.ty "int")) tNil))) (tNotV (tCB (rIsi K) (tCons (tVar 0) (tCons (tC (.ty "bool")) tNil)))))
theorem run_isint {K : PySem.W.Frag} {N : List Str} {vs : List V} {H : Hp} {Q : VK} {E : XK} (h : spIsInt vs H Q E) : t_isint K { nx := fun _ H' => Q .non H', rt := Q } (start N vs) H := by
  obtain ⟨x, rfl, h⟩ := h
  have s0 : (start N [x])[0]? = some (some x) := rfl
  rcases h with ⟨⟨n, rfl⟩, q⟩ | ⟨o, q⟩
  · obtain ⟨t1, k1, k2⟩ := int_ty K H n
    refine ⟨_, s0, _, .ty "int", _, .type "int", true, rfl, .ty _, t1, kit_ty k1, true, rfl, ?_⟩
    refine iteT ?_
    exact ⟨_, s0, _, .ty "bool", _, .type "bool", false, rfl, .ty _, t1, kit_ty k2, false, rfl, q⟩
  · obtain ⟨n, b1, b2, t1, k1, k2, e⟩ := odd_ty K o
    refine ⟨_, s0, _, .ty "int", _, .type "int", b1, rfl, .ty _, t1, kit_ty k1, b1, rfl, ?_⟩
    cases b1 with
    | false => exact iteF q
    | true =>
      cases b2 with
      | false => cases e
      | true =>
        refine iteT ?_
        exact ⟨_, s0, _, .ty "bool", _, .type "bool", true, rfl, .ty _, t1, kit_ty k2, true, rfl, q⟩
/-! ### the draws -/
/-- _law_cell(script, k): some int -/
def spCell (K : PySem.W.Frag) : Sp := fun vs H Q _ => ∃ (l : Addr) (ns : List Int) (j : Nat), vs = [.ref l, .int (j : Int)] ∧ SqL K H l (ns.map V.int) ∧ j < 1000 ∧ ∀ n : Int, Q (.int n) H
/-- _law_take(draw, size) -/
def spTake : Sp := fun vs H Q _ => ∃ (d : Addr) (n s : Int), vs = [.ref d, .int s] ∧ H d = some (.lst [.int n]) ∧ 0 < s ∧ s < 1073741824 ∧ ∀ r m : Int, 0 ≤ r → r < s → Q (.int r) (upd H d (.lst [.int m]))
theorem atI0 {α : Type} {x : α} {xs : List α} : atI (x :: xs) 0 = some x := by simp [atI, ixN]
theorem atI1 {α : Type} {x y : α} {xs : List α} : atI (x :: y :: xs) 1 = some y := by
  have h : ixN (x :: y :: xs).length 1 = some 1 := by
    unfold ixN
    rw [if_pos (by omega), if_pos (by simp only [List.length_cons]; omega)]
    rfl
  unfold atI
  rw [h]
  rfl
theorem ixN0 {n : Nat} : ixN (n + 1) 0 = some 0 := by
  unfold ixN
  rw [if_pos (by omega), if_pos (by omega)]
  all_goals rfl
abbrev rAddI : R2 := rI0 fun i j => .int (i + j)
abbrev rModI : R2 := rI (fun _ j => 0 < j) fun i j => .int (i % j)
end Vf

set_option Elab.async false
set_option linter.all false
set_option maxRecDepth 100000
set_option maxHeartbeats 2000000
namespace Vf
open PySem PySem.Spec PyProof.Rows L2
/-! ### own errors: class C(..): def __init__(self, f): self.f = f -/
def oexB (K : PySem.W.Frag) (C : Addr) : Bool := match K.lookup C with
  | some ⟨.type "type", _, .cls cd, sl⟩ => (match cd.mro, sl.toList with
    | .ref C' :: bm, [_, _, _, _, some (.builtin n), _] => C' == C && n == "ValueError.__new__" && !cd.hasDel && cd.hasDict && PySem.HandSPX.refsVE bm
    | _, _ => false)
  | _ => false
theorem oexB_ok {K : PySem.W.Frag} {C : Addr} (q : oexB K C = true) : ∃ nm qn N bs bm sn sub ab col dd k0 k1 k2 k3 k5, K.lookup C = some (excClassObj nm qn C N bs bm true sn sub ab col dd k0 k1 k2 k3 k5 "ValueError.__new__") ∧ PySem.HandSPX.refsVE bm = true := by
  unfold oexB at q
  split at q
  · rename_i dd cd sl ho
    split at q
    · rename_i C' bm k0 k1 k2 k3 n k5 hm hs
      simp only [Bool.and_eq_true, beq_iff_eq, Bool.not_eq_true'] at q
      obtain ⟨⟨⟨⟨e1, e2⟩, hdel⟩, hh⟩, hbm⟩ := q
      obtain ⟨nm, bs, mro, ns, qn, hd, sn, sub, ab, col, del⟩ := cd
      obtain ⟨l⟩ := sl
      dsimp only at hm hdel hh hs
      subst hm hdel hh hs e1 e2
      exact ⟨nm, qn, ns, bs, bm, sn, sub, ab, col, dd, k0, k1, k2, k3, k5, ho, hbm⟩
    · cases q
  · cases q
/-- what is told of the error class x whose __init__ keeps its argument as f -/
structure ExD (K : PySem.W.Frag) (x : Str) : Prop where
  o : OexC K (He.ga K x)
  gg : PySem.W.findIn K (.ref (He.ga K x)) "__getattr__" = some none
  ga : PySem.W.findIn K (.ref (He.ga K x)) "__getattribute__" = some (some (.builtin "BaseException.__getattribute__"))
  ha : PySem.W.findIn K (.ref (He.ga K x)) "__class__" = some (some (.builtin "object.__class__"))
  hm : PySem.W.mroIn K (He.ga K x) (.type "object") = some true
  hd : PySem.W.hasDictIn K (He.ga K x) = true
  hcl : (PySem.W.clsIn K (He.ga K x)).isSome = true
def exD (K : PySem.W.Frag) (x : Str) : Bool :=
  oexB K (He.ga K x) && (He.eqO (PySem.W.findIn K (.ref (He.ga K x)) "__setattr__") (some (some (.builtin "object.__setattr__"))) && (decide (PySem.W.subIn K (.ref (He.ga K x)) (.type "BaseException") = some true) && (decide (PySem.W.typeIn K (.ref (He.ga K x)) = some (.type "type")) && (PySem.W.keepIn K (.ref (He.ga K x)) &&
  (He.eqO (PySem.W.findIn K (.ref (He.ga K x)) "__getattr__") (some none) && (He.eqO (PySem.W.findIn K (.ref (He.ga K x)) "__getattribute__") (some (some (.builtin "BaseException.__getattribute__"))) && (He.eqO (PySem.W.findIn K (.ref (He.ga K x)) "__class__") (some (some (.builtin "object.__class__"))) &&
  (decide (PySem.W.mroIn K (He.ga K x) (.type "object") = some true) && (PySem.W.hasDictIn K (He.ga K x) && (PySem.W.clsIn K (He.ga K x)).isSome)))))))))
theorem exD_ok {K : PySem.W.Frag} {x : Str} (h : exD K x = true) : ExD K x := by
  obtain ⟨h1, h⟩ := He.ba h
  obtain ⟨h2, h⟩ := He.ba h
  obtain ⟨h3, h⟩ := He.ba h
  obtain ⟨h4, h⟩ := He.ba h
  obtain ⟨h5, h⟩ := He.ba h
  obtain ⟨h6, h⟩ := He.ba h
  obtain ⟨h7, h⟩ := He.ba h
  obtain ⟨h8, h⟩ := He.ba h
  obtain ⟨h9, h⟩ := He.ba h
  obtain ⟨h10, h11⟩ := He.ba h
  exact ⟨⟨oexB_ok h1, He.eqO_ok h2, of_decide_eq_true h3, of_decide_eq_true h4, h5⟩, He.eqO_ok h6, He.eqO_ok h7, He.eqO_ok h8, of_decide_eq_true h9, h10, h11⟩
/-- .. with its __init__ and its field f -/
structure ExI (K : PySem.W.Frag) (x f : Str) : Prop where
  d : ExD K x
  i : PySem.W.findIn K (.ref (He.ga K x)) "__init__" = some (some (.ref (He.fAd K (x, some "__init__"))))
  t : PySem.W.typeIn K (.ref (He.fAd K (x, some "__init__"))) = some (.type "function")
  n : PySem.W.findIn K (.ref (He.ga K x)) f = some none
def exI (K : PySem.W.Frag) (x f : Str) : Bool :=
  exD K x && (He.eqO (PySem.W.findIn K (.ref (He.ga K x)) "__init__") (some (some (.ref (He.fAd K (x, some "__init__"))))) && (decide (PySem.W.typeIn K (.ref (He.fAd K (x, some "__init__"))) = some (.type "function")) && He.eqO (PySem.W.findIn K (.ref (He.ga K x)) f) (some none)))
theorem exI_ok {K : PySem.W.Frag} {x f : Str} (h : exI K x f = true) : ExI K x f := by
  obtain ⟨h1, h⟩ := He.ba h
  obtain ⟨h2, h⟩ := He.ba h
  obtain ⟨h3, h4⟩ := He.ba h
  exact ⟨exD_ok h1, He.eqO_ok h2, of_decide_eq_true h3, He.eqO_ok h4⟩
/-- the __init__: self.f = v -/
def spExI (K : PySem.W.Frag) (C : Addr) (f : Str) : Sp := fun vs H Q _ => ∃ (a : Addr) (v : V), vs = [.ref a, v] ∧ OexC K C ∧ PySem.W.findIn K (.ref C) f = some none ∧ H a = some (exo a C none) ∧
  ∀ dx, H dx = none → dx ≠ a → Q .non (upd (upd H dx (exd dx [(f, v)])) a (exo a C (some dx)))
theorem run_exI {K : PySem.W.Frag} {C : Addr} {f : Str} {N : List Str} {vs : List V} {H : Hp} {Q : VK} {E : XK} (h : spExI K C f vs H Q E) : tOst K f (tVar 0) (tVar 1) { nx := fun _ H' => Q .non H', rt := Q } (start N vs) H := by
  obtain ⟨a, v, rfl, T, hn, ea, q⟩ := h
  have s0 : (start N [.ref a, v])[0]? = some (some (.ref a)) := rfl
  have s1 : (start N [.ref a, v])[1]? = some (some v) := rfl
  exact ⟨_, s1, _, s0, a, C, rfl, T, hn, .inl ⟨ea, fun dx h1 h2 => q dx h1 h2⟩⟩
/-- the heap behind the making: the error's own dict alone is new -/
theorem exc_heap {H : Hp} {a d : Addr} {o1 o2 o3 o4 : HO} (ha : H a = none) (hda : d ≠ a) : upd (del (upd (upd (upd H a o1) d o2) a o3) a) d o4 = upd H d o4 := by
  funext b
  by_cases h1 : b = d
  · rw [h1, upd_same, upd_same]
  · rw [upd_ne h1, upd_ne h1]
    by_cases h2 : b = a
    · rw [h2, del_same, ha]
    · rw [del_ne h2, upd_ne h2, upd_ne h1, upd_ne h2]
theorem pa_weak {X : Cx} {es : List Expr} {ta : TA} (ha : PA X es ta) : PA X es (fun σ H Q => ∃ R, ta σ H R ∧ ∀ vs H1, R vs H1 → Q vs H1) := ⟨fun pos pins s σ H Q I h => by
  obtain ⟨R, h1, h2⟩ := h
  exact thn (ha.run pos pins s σ H R I h1) fun us s1 ⟨vs, H1, I1, r, q⟩ => ⟨vs, H1, I1, r, h2 _ _ q⟩⟩
section
variable {X : Cx} {CX : CXT} {k j : Nat} {ps : List Str} {x f : Str} {p pos pos2 : Pos} {e : Expr} {es : List Expr} {ta : TA} {W : WX}
/-- raise C(e): the error's dict, new, holds f -/
def tRaiseI (C : Addr) (f : Str) (W : WX) (ta : TA) : TS := fun _ σ H => ta σ H fun vs H1 => ∃ v, vs = [v] ∧ ∀ d, H1 d = none → W (.ref C) (some d) σ (upd H1 d (.xd [(f, v)]))
theorem c_raise (T : ExI X.K x f) (O : OkD X.prog X.w X.K X.mg X.base CX0 k (x, some "__init__") ps [] (spExI X.K (He.ga X.K x) f)) (hr : Room j X.A) (hj : k + 1 ≤ j) (hm : X.mg x = some (.ref (He.ga X.K x))) (tk : Takes X W) (ha : PA X (e :: es) ta) (hc : X.calm = true := by rfl) (hg : Gl X x := by rfl)
    (hdb : (x == ("__debug__" : Str)) = false := by decide) (he : starEach (e :: es) X.env = (false, eval e X.env) :: starEach es X.env := by rfl) (hpl : (backTo pos (starEach es X.env)).any (·.1) = false := by rfl) :
    PS X (.Raise (some (.Call (.Name x p) (e :: es) [] pos)) none pos2) (tRaiseI (He.ga X.K x) f W ta) := by
  obtain ⟨fd, ds, F, b, v⟩ := O.ex
  cases v
  refine ⟨fun pins s σ H D I h => (ps_raise hc tk (pmk_oex (p := p) T.d.o T.i T.t F (hr.mono hj) b .nil pass0 hg hm (pa_weak ha) hdb he hpl)).run pins s σ H D I ?_⟩
  refine ⟨_, h, fun vs H1 z => ?_⟩
  obtain ⟨v, rfl, q⟩ := z
  refine ⟨(by show 1 ≤ 1000; decide), fun a na => ⟨a, v, rfl, T.d.o, T.n, upd_same, fun dx h1 h2 => ?_⟩⟩
  have hdx : H1 dx = none := by
    rw [upd_ne h2] at h1
    exact h1
  refine ⟨rfl, dx, [(f, v)], upd_same, ?_, hdx, ?_⟩
  · rw [upd_ne h2, upd_same]
  · rw [exc_heap na h2]
    exact q dx hdx
end
/-! ### isinstance(e, c) of a caught error -/
section
variable {X : Cx}
theorem call_isiE {a D : Addr} {d : Option Addr} {oe : Obj} {pn : List (Addr × Obj)} {x : Str} (hD : D = He.ga X.K x) (T : ExD X.K x) (hn : PySem.W.specialIn X.K (.builtin "object.__class__") "__get__" = some (some (.builtin "getset_descriptor.__get__")))
    (ht : PySem.W.takesIn X.K (.builtin "object.__class__") = some true) {cls : Value} (hz : Zc cls d oe) (hf : ∃ vs, oe.data = .fields vs) : CallR (X.suite a ((a, oe) :: pn)) (.builtin "isinstance")
      (fun xs H Q => ∃ (c : V) (cv : Value) (b : Bool), xs = [.ref a, c] ∧ cls = .ref D ∧ ClsV c cv ∧ PySem.W.kitOne X.K (.ref D) cv = some b ∧ (∃ dd fs, d = some dd ∧ H dd = some (.xd fs)) ∧ Q (.bl b) H) := by
  subst hD
  intro pins s σ H xs us Q I r h
  obtain ⟨c, cv, b, rfl, ec, hcv, e, ⟨dd, fs, ed, hdd⟩, q⟩ := h
  obtain ⟨u1, u2, rfl, r1, r2⟩ := vals2 r
  have e2 := hcv.eq r2
  subst e2
  cases r1
  obtain ⟨hget, _⟩ := I.pin (a, oe) (List.mem_append.mpr (.inl List.mem_cons_self))
  obtain ⟨vs, hv⟩ := hf
  subst ed ec
  obtain ⟨mA, ⟨od, es, ep, ho, _⟩, _⟩ := (show ObjOk X.prog X.w H s.heap dd (.xd fs) from I.hok dd _ hdd)
  have J : PySem.W.InstAt s.heap a oe (He.ga X.K x) (some od) := by
    obtain ⟨oc, odd, oda, osl⟩ := oe
    obtain ⟨h1, h2⟩ := hz
    dsimp only at h1 h2 hv
    subst h1 h2 hv
    exact ⟨hget, rfl, rfl, ho⟩
  exact PySem.W.kia_one (PySem.W.kitx_exc T.hcl T.ga T.gg T.o.exC T.ha hn ht T.hm) I.kIn J e (fun z => nomatch z) fun tk => ⟨.bl b, H, I.kept (t' := tk) fun _ _ z => z, rfl, q⟩
end
/-! ### the head's hook: any Bool over the written part, the defs -/
abbrev AlM : Type := Bool × List He.FnW
def obsM (ex : PySem.W.Frag → Bool) (fn : List He.DefD) (K : PySem.W.Frag) : AlM := (ex K && fn.all fun d => d.ok K, fn.map fun d => He.fnW K d.at_)
def SaysM (ex : PySem.W.Frag → Bool) (fn : List He.DefD) (K : PySem.W.Frag) : Prop := obsM ex fn K = (true, fn.map He.DefD.val)
def obsMG (n : Nat) (ex : PySem.W.Frag → Bool) (fn : List He.DefD) (g : Addr → Option Obj) : AlM := obsM ex fn (He.frG g (He.asD g n))
def hookM (n : Nat) (ex : PySem.W.Frag → Bool) (fn : List He.DefD) : PySem.W.Hook where
  α := AlM
  obs := fun s => obsMG n ex fn s.heap.get?
  val := fun _ => (true, fn.map He.DefD.val)
  says := fun _ h => ∃ K : PySem.W.Frag, K.In h ∧ SaysM ex fn K
  of := fun _ _ e => ⟨_, He.frG_in, e⟩
  keeps := fun _ _ _ ⟨K, hK, c⟩ k => ⟨K, PySem.W.Frag.In.keeps hK k, c⟩
theorem obsMG_eq {n : Nat} {ex : PySem.W.Frag → Bool} {fn : List He.DefD} {g : Addr → Option Obj} {s : Shared} (h : ∀ a, g a = s.heap.get? a) : obsMG n ex fn g = (hookM n ex fn).obs s := by
  have e : g = s.heap.get? := funext h
  rw [e]
  rfl
theorem SaysM.ex {ex : PySem.W.Frag → Bool} {fn : List He.DefD} {K : PySem.W.Frag} (c : SaysM ex fn K) : ex K = true := (He.ba (congrArg (fun z : AlM => z.1) c)).1
theorem SaysM.fn {ex : PySem.W.Frag → Bool} {fn : List He.DefD} {K : PySem.W.Frag} (c : SaysM ex fn K) (i : Nat) {d : He.DefD} (h : fn[i]? = some d := by rfl) : ∃ fd, FunD K d.name d.qual d.params d.body d.scope (d.dvs K) (d.kws K) (He.fAd K d.at_) fd := by
  have c2 := (He.ba (congrArg (fun z : AlM => z.1) c)).2
  have e : fn.map (fun d => He.fnW K d.at_) = fn.map He.DefD.val := congrArg (fun z : AlM => z.2) c
  have e2 : He.fnW K d.at_ = d.val := by
    have e3 : (fn.map fun d => He.fnW K d.at_)[i]? = (fn.map He.DefD.val)[i]? := by rw [e]
    simp only [List.getElem?_map, h, Option.map_some] at e3
    exact Option.some.inj e3
  exact He.DefD.funD e2 (List.all_eq_true.mp c2 d (List.mem_of_getElem? h))

end Vf

set_option Elab.async false
set_option linter.all false
set_option maxRecDepth 100000
set_option maxHeartbeats 2000000
namespace Vf
open PySem PySem.Spec PyProof.Rows L2
/-! ### Euclid's loop -/
def Eu (g B i x y : Nat) : Prop := Nat.gcd x y = g ∧ ((i % 2 = 0 ∧ y * 2 ^ (i / 2) ≤ B) ∨ (i % 2 = 1 ∧ y < x ∧ x * 2 ^ (i / 2) ≤ B))
theorem Eu.start (x y : Nat) : Eu (Nat.gcd x y) y 0 x y := ⟨rfl, .inl ⟨rfl, by simp⟩⟩
theorem Eu.step {g B i x y : Nat} (h : Eu g B i x y) (hy : y ≠ 0) : Eu g B (i + 1) y (x % y) := by
  obtain ⟨hg, h⟩ := h
  have hg2 : Nat.gcd y (x % y) = g := by
    rw [← hg, Nat.gcd_comm x y, Nat.gcd_rec y x, Nat.gcd_comm]
  have hlt : x % y < y := Nat.mod_lt x (by omega)
  refine ⟨hg2, ?_⟩
  rcases h with ⟨he, hb⟩ | ⟨ho, hxy, hb⟩
  · refine .inr ⟨by omega, hlt, ?_⟩
    have e : (i + 1) / 2 = i / 2 := by omega
    rw [e]
    exact hb
  · refine .inl ⟨by omega, ?_⟩
    have e : (i + 1) / 2 = i / 2 + 1 := by omega
    have hd := Nat.div_add_mod x y
    have h1 : 1 ≤ x / y := Nat.div_pos (by omega) (by omega)
    have h2 : y * 1 ≤ y * (x / y) := Nat.mul_le_mul_left y h1
    have h3 : 2 * (x % y) ≤ x := by omega
    rw [e, Nat.pow_succ]
    calc x % y * (2 ^ (i / 2) * 2) = (2 * (x % y)) * 2 ^ (i / 2) := by rw [Nat.mul_comm (2 ^ (i / 2)) 2, ← Nat.mul_assoc, Nat.mul_comm (x % y) 2]
      _ ≤ x * 2 ^ (i / 2) := Nat.mul_le_mul_right _ h3
      _ ≤ B := hb
theorem Eu.last {g B x y : Nat} (h : Eu g B 500 x y) (hB : B < 2 ^ 250) : x = g := by
  obtain ⟨hg, h⟩ := h
  rcases h with ⟨_, hb⟩ | ⟨ho, _⟩
  · have e : (500 : Nat) / 2 = 250 := rfl
    rw [e] at hb
    have hy : y = 0 := by
      rcases Nat.eq_zero_or_pos y with h0 | h0
      · exact h0
      · exfalso
        have : 1 * 2 ^ 250 ≤ y * 2 ^ 250 := Nat.mul_le_mul_right _ h0
        omega
    rw [hy, Nat.gcd_zero_right] at hg
    exact hg
  · omega
theorem Eu.zero {g B i x : Nat} (h : Eu g B i x 0) : x = g := by
  have hg := h.1
  rw [Nat.gcd_zero_right] at hg
  exact hg
/-! ### lowest terms -/
def nG (t b : Int) : Int := ((Nat.gcd t.natAbs b.natAbs : Nat) : Int)
def nC (t b : Int) : Int := if b < 0 then -(nG t b) else nG t b
def nT (t b : Int) : Int := t.fdiv (nC t b)
def nB (t b : Int) : Int := b.fdiv (nC t b)
/-- a and b are t over b' in lowest terms -/
structure Nf (a b : Int) : Prop where
  pos : 0 < b
  cop : Nat.gcd a.natAbs b.natAbs = 1
structure NfOf (t u a b : Int) : Prop extends Nf a b where
  eq : a * u = t * b
  le1 : a.natAbs ≤ t.natAbs
  le2 : b.natAbs ≤ u.natAbs
theorem nG_pos {t b : Int} (hb : b ≠ 0) : 0 < nG t b := by
  have : 0 < Nat.gcd t.natAbs b.natAbs := Nat.gcd_pos_of_pos_right _ (by omega)
  unfold nG
  omega
theorem nC_abs (t b : Int) : (nC t b).natAbs = Nat.gcd t.natAbs b.natAbs := by
  unfold nC nG
  split <;> omega
theorem nC_ne {t b : Int} (hb : b ≠ 0) : nC t b ≠ 0 := by
  have := nG_pos (t := t) hb
  unfold nC
  split <;> omega
theorem nC_dvd1 (t b : Int) : nC t b ∣ t := by
  rw [← Int.natAbs_dvd_natAbs, nC_abs]
  exact Nat.gcd_dvd_left _ _
theorem nC_dvd2 (t b : Int) : nC t b ∣ b := by
  rw [← Int.natAbs_dvd_natAbs, nC_abs]
  exact Nat.gcd_dvd_right _ _
theorem nT_mul (t b : Int) : nT t b * nC t b = t := Int.fdiv_mul_cancel (nC_dvd1 t b)
theorem nB_mul (t b : Int) : nB t b * nC t b = b := Int.fdiv_mul_cancel (nC_dvd2 t b)
theorem nf_of (t : Int) {b : Int} (hb : b ≠ 0) : NfOf t b (nT t b) (nB t b) := by
  have e1 := nT_mul t b
  have e2 := nB_mul t b
  have hc := nC_ne (t := t) hb
  have ga := nC_abs t b
  have g0 : 0 < Nat.gcd t.natAbs b.natAbs := Nat.gcd_pos_of_pos_right _ (by omega)
  have a1 : (nT t b).natAbs * Nat.gcd t.natAbs b.natAbs = t.natAbs := by rw [← ga, ← Int.natAbs_mul, e1]
  have a2 : (nB t b).natAbs * Nat.gcd t.natAbs b.natAbs = b.natAbs := by rw [← ga, ← Int.natAbs_mul, e2]
  refine ⟨⟨?_, ?_⟩, ?_, ?_, ?_⟩
  · rcases (show 0 < nB t b ∨ nB t b ≤ 0 by omega) with h | h
    · exact h
    · exfalso
      by_cases hn : b < 0
      · have hc2 : nC t b < 0 := by
          have := nG_pos (t := t) hb
          unfold nC
          rw [if_pos hn]
          omega
        have := Int.mul_nonneg_of_nonpos_of_nonpos h (Int.le_of_lt hc2)
        omega
      · have hc2 : 0 < nC t b := by
          have := nG_pos (t := t) hb
          unfold nC
          rw [if_neg hn]
          omega
        have := Int.mul_nonpos_of_nonpos_of_nonneg h (Int.le_of_lt hc2)
        omega
  · have h := Nat.gcd_mul_right (nT t b).natAbs (Nat.gcd t.natAbs b.natAbs) (nB t b).natAbs
    rw [a1, a2] at h
    have h2 : 1 * Nat.gcd t.natAbs b.natAbs = Nat.gcd (nT t b).natAbs (nB t b).natAbs * Nat.gcd t.natAbs b.natAbs := by rw [Nat.one_mul]; exact h
    exact (Nat.eq_of_mul_eq_mul_right g0 h2).symm
  · calc nT t b * b = nT t b * (nB t b * nC t b) := by rw [e2]
      _ = (nT t b * nC t b) * nB t b := by rw [Int.mul_comm (nB t b), Int.mul_assoc]
      _ = t * nB t b := by rw [e1]
  · calc (nT t b).natAbs = (nT t b).natAbs * 1 := by rw [Nat.mul_one]
      _ ≤ (nT t b).natAbs * Nat.gcd t.natAbs b.natAbs := Nat.mul_le_mul_left _ g0
      _ = t.natAbs := a1
  · calc (nB t b).natAbs = (nB t b).natAbs * 1 := by rw [Nat.mul_one]
      _ ≤ (nB t b).natAbs * Nat.gcd t.natAbs b.natAbs := Nat.mul_le_mul_left _ g0
      _ = b.natAbs := a2
/-- bits: below 2 ^ n -/
def Bit (n : Nat) (x : Int) : Prop := x.natAbs < 2 ^ n
theorem Bit.mono {n m : Nat} {x : Int} (h : Bit n x) (l : n ≤ m) : Bit m x := Nat.lt_of_lt_of_le h (Nat.pow_le_pow_right (by decide) l)
theorem Bit.le {n : Nat} {x y : Int} (h : Bit n y) (l : x.natAbs ≤ y.natAbs) : Bit n x := Nat.lt_of_le_of_lt l h
theorem Bit.mul {n m : Nat} {x y : Int} (h : Bit n x) (h' : Bit m y) : Bit (n + m) (x * y) := by
  unfold Bit
  rw [Int.natAbs_mul, Nat.pow_add]
  exact Nat.mul_lt_mul'' h h'
theorem Bit.add {n : Nat} {x y : Int} (h : Bit n x) (h' : Bit n y) : Bit (n + 1) (x + y) := by
  unfold Bit at *
  rw [Nat.pow_succ]
  omega
theorem Bit.sub {n : Nat} {x y : Int} (h : Bit n x) (h' : Bit n y) : Bit (n + 1) (x - y) := by
  unfold Bit at *
  rw [Nat.pow_succ]
  omega
theorem Bit.neg {n : Nat} {x : Int} (h : Bit n x) : Bit n (-x) := by
  unfold Bit at *
  omega
theorem Bit.log {n m : Nat} {x : Int} (h : Bit n x) (h0 : 0 < n) (hm : n ≤ m) : x.natAbs.log2 < m := Nat.lt_of_lt_of_le (PySem.Flt.log2_lt_of h0 h) hm
theorem Bit.wm {n m : Nat} {x y : Int} (h : Bit n x) (h' : Bit m y) (h0 : 0 < n) (h1 : 0 < m) (l : n + m ≤ 1000000) : CMulW x y := wide_mul h h' h0 h1 l
end Vf

set_option Elab.async false
set_option linter.all false
set_option maxRecDepth 100000
set_option maxHeartbeats 2000000
namespace Vf
open PySem PySem.Spec PyProof.Rows L2
section
open PySem.W PySem.Calls
variable {prog : Program} {w : World} {A : Around} {E : Value → Shared → Prop} {s : Shared} {K : Frag} {x C f f0 L : Addr} {h₀ : Heap} {m : Str → Option Value} {ox : Obj} {od : Option Obj} {nm : String}
/-- a slot of int that is handed an instance of the text's own declines -/
theorem int_no {n : Int} {t : Tok} {name : String} {g : Int → Int → Sem Fin} {refl : Bool} (hd : ox.data = .plain) (hx : s.heap.get? x = some ox) {Q : Fin → Shared → Prop}
    (h : Q (.done (.ret .notImplemented)) s) : wpAny (model prog w) A (PySem.Builtin.Int.intBinary name g refl ⟨[.int n t, .ref x], []⟩) Q E s := by
  obtain ⟨hp, gg, d, tk, os⟩ := s
  obtain ⟨oc, odd, oda, osl⟩ := ox
  dsimp only at hd
  subst hd
  unfold PySem.Builtin.Int.intBinary
  wp_walk using AutoSeq1.wpAny_loadPart' hx
  exact h
/-- B declines an instance of the text's own -/
def Declines (B : Builtin) : Prop := ∀ (prog : Program) (w : World) (A : Around) (E : Value → Shared → Prop) (s : Shared) (n : Int) (t : Tok) (x : Addr) (ox : Obj) (Q : Fin → Shared → Prop), ox.data = .plain → s.heap.get? x = some ox → Q (.done (.ret .notImplemented)) s → wpAny (model prog w) A (B ⟨[.int n t, .ref x], []⟩) Q E s
theorem decl_bin (name : String) (g : Int → Int → Sem Fin) (r : Bool) : Declines (PySem.Builtin.Int.intBinary name g r) := fun _ _ _ _ _ _ _ _ _ _ hd hx h => int_no hd hx h
theorem decl_fdv : Declines PySem.Builtin.«int.__floordiv__» := fun prog w A E s n t x ox Q hd hx h => by
  obtain ⟨hp, gg, d, tk, os⟩ := s
  obtain ⟨oc, odd, oda, osl⟩ := ox
  dsimp only at hd
  subst hd
  unfold PySem.Builtin.«int.__floordiv__» PySem.Builtin.exactOperandsForPylong
  have k := fun g => int_no (prog := prog) (w := w) (A := A) (E := E) (n := n) (t := t) (name := "__floordiv__") (g := g) (refl := false) (s := ⟨hp, gg, d, tk, os⟩) rfl hx h
  wp_walk using AutoSeq1.wpAny_loadPart' hx
  all_goals first | exact k _ | exact h
/-- n op x, n an int, x an instance of the text's own: int's slot declines, the reflected one of x's class is asked -/
theorem bin_int_own {op : Operator} {n : Int} {t : Tok} {id : String} {B : Builtin} {Q : Value → Shared → Prop} (X : K.In s.heap) (I : InstAt s.heap x ox C od) (hp : ox.data = .plain) (hc : selfFirst K C = true)
    (hs : findIn K (.ref C) (PySem.dunder op.info.2) = some (some (.ref f0))) (hr : findIn K (.ref C) (dunderR op.info.2) = some (some (.ref f))) (hf : isFn K (.ref f) = true) (hm : mroIn K C (.type "int") = some false)
    (hfT : fillsNumberSlot (.type "int") op.info.2 = pure true) (slot : Slot "int" (PySem.dunder op.info.2) id) (entry : entryFor table id = some B) (ha : argsOk id ⟨[.int n t, .ref x], []⟩)
    (hB : Declines B)
    (h : wpAny (model prog w) A (call (.ref f) [.ref x, .int n t]) (PySem.W.CmpBack Q) E s) : wpAny (model prog w) A (binaryOp op (.int n t) (.ref x)) Q E s := by
  obtain ⟨cd, rest, hcd, hmro⟩ := ksp_first hc
  rcases hi : op.info with ⟨sym, nm'⟩
  rw [hi] at hs hr slot hfT
  dsimp only at hs hr slot hfT
  have one := ksp_try X I hr hf h
  have two : wpAny (model prog w) A (tryMethod (.int n t) (PySem.dunder nm') (.ref x)) (fun r s' => r = none ∧ s' = s) E s :=
    wpAny_tryMethod_declines (typeIs_int s n t) slot (wpAny_call_entry slot (typeIs_int s n t) entry (hB _ _ _ _ _ _ _ _ _ _ hp I.at_ ⟨_, rfl, rfl, rfl, rfl⟩) ha)
  obtain ⟨hh, gg, d, tt, os⟩ := s
  have L1 : Looks (model prog w) hh (typeOf (.int n t)) (.type "int") := Looks.of_pure rfl
  have L2 : Looks (model prog w) hh (typeOf (.ref x)) (.ref C) := I.type
  have L3 : Looks (model prog w) hh (fillsNumberSlot (.type "int") nm') true := Looks.of_pure hfT
  have L4 : Looks (model prog w) hh (fillsNumberSlot (.ref C) nm') true := fills_K X hcd hmro hs
  have L5 : Looks (model prog w) hh (isSubtype (.ref C) (.type "int")) false := looks_mroIn X hm
  have L6 : Looks (model prog w) hh (numberSlotInPython (.type "int") nm') false := Looks.of_pure rfl
  have hne : (Value.type "int" == Value.ref C) = false := Bool.eq_false_iff.mpr fun q => by cases beq_iff_eq.mp q
  simp only [binaryOp, hi]
  refine wpAny_holding (wpAny_bind ?_)
  unfold binaryOp1
  refine wpAny_bind (L1.at (wpAny_bind (L2.at (wpAny_bind (L3.at ?_)))))
  simp only [hne, Bool.false_eq_true, if_false]
  ksp_lk
  refine wpAny_mono two (fun r s' hr' => ?_) fun _ _ e => e
  obtain ⟨rfl, rfl⟩ := hr'
  ksp_lk
  refine wpAny_mono one (fun r s' hr' => ?_) fun _ _ e => e
  obtain ⟨v, rfl, hq⟩ := hr'
  ksp_lk
  exact hq
/-- n ? x for a comparison: int's slot declines, the swapped one of x's class is asked -/
theorem cmp_int_own {op : CmpOp} {n : Int} {t : Tok} {id : String} {B : Builtin} {Q : Value → Shared → Prop} (hu : A.units < cLine) (X : K.In s.heap) (I : InstAt s.heap x ox C od) (hp : ox.data = .plain)
    (hr : findIn K (.ref C) (cmpInfo op).2.2 = some (some (.ref f))) (hf : isFn K (.ref f) = true) (hm : mroIn K C (.type "int") = some false)
    (slot : Slot "int" (cmpInfo op).2.1 id) (entry : entryFor table id = some B) (ha : argsOk id ⟨[.int n t, .ref x], []⟩) (hB : Declines B)
    (h : wpAny (model prog w) A (call (.ref f) [.ref x, .int n t]) (PySem.W.CmpBack Q) E s) : wpAny (model prog w) A (richCompare op (.int n t) (.ref x)) Q E s := by
  have one : wpAny (model prog w) A (tryCompare (.ref x) (cmpInfo op).2.2 (.int n t)) (fun r s' => ∃ v, r = some v ∧ Q v s') E s := by
    unfold tryCompare
    refine wpAny_bind (ifBound_K X I hr hf (wpAny_mono h (fun v s' hv => ?_) fun _ _ e => e))
    cases v <;> first | exact hv.elim | exact wpAny_pure ⟨_, rfl, hv⟩
  have two : wpAny (model prog w) A (tryCompare (.int n t) (cmpInfo op).2.1 (.ref x)) (fun r s' => r = none ∧ s' = s) E s :=
    wpAny_tryCompare_declines (typeIs_int s n t) slot (wpAny_call_entry slot (typeIs_int s n t) entry (hB _ _ _ _ _ _ _ _ _ _ hp I.at_ ⟨_, rfl, rfl, rfl, rfl⟩) ha)
  have ot : oneThing? op (.int n t) (.ref x) = none := rfl
  have hne : (Value.type "int" != Value.ref C) = true := bne_iff_ne.mpr fun q => by cases q
  unfold richCompare
  simp only [ot]
  refine wpAny_holding (wpAny_bind (wpAny_cRoomFor hu ?_))
  refine wpAny_bind ((Looks.of_pure rfl : Looks (model prog w) s.heap (typeOf (.int n t)) (.type "int")).here (wpAny_bind (I.type.here ?_)))
  simp only [hne, if_true]
  refine wpAny_bind ((looks_mroIn X hm).here ?_)
  simp only [Bool.false_eq_true, if_false]
  refine wpAny_bind (wpAny_mono two (fun r s' z => ?_) fun _ _ e => e)
  obtain ⟨rfl, rfl⟩ := z
  simp only [Bool.not_false, if_true]
  refine wpAny_bind (wpAny_mono one (fun r s' z => ?_) fun _ _ e => e)
  obtain ⟨v, rfl, hq⟩ := z
  exact wpAny_pure hq
end
/-! ### readings over the layer -/
section
variable {X : Cx} {CX : CXT} {k j : Nat} {C : Addr} {cn m : Str} {ps : List Str} {sp : Sp} {E : XK}
theorem back_of {pins : List (Addr × Obj)} {σ : L2.St} {Q : VK} {u : Value} {s' : Shared} (h : EP X pins σ Q u s') : PySem.W.CmpBack (EP X pins σ Q) u s' := by
  obtain ⟨v, H', I, r, q⟩ := id h
  cases v with
  | non => cases (show u = Value.none from r); exact h
  | bl b => cases (show u = Value.bool b from r); exact h
  | int i => obtain ⟨t, e⟩ := (show ∃ t, u = Value.int i t from r); cases e; exact h
  | str z => obtain ⟨t, e⟩ := (show ∃ t, u = Value.str z t from r); cases e; exact h
  | byt z => obtain ⟨t, e⟩ := (show ∃ t, u = Value.bytes z t from r); cases e; exact h
  | flt z => obtain ⟨t, e⟩ := (show ∃ t, u = Value.float z t from r); cases e; exact h
  | ref a => cases (show u = Value.ref a from r); exact h
  | ty n => cases (show u = Value.type n from r); exact h
/-- a method of the text's own asked by the machine, at the running body's own depth -/
theorem run_own {f : Addr} {fd : FuncData} {pins : List (Addr × Obj)} {σ : L2.St} {H : Hp} {s : Shared} {Q : VK} {us : List Value} {vs : List V} (F : FnOk X.prog X.w X.K X.mg X.base CX k f fd ps sp) (hr : Room k X.A) (hb : L2.Binds X.K fd ps []) (hx : Passes CX X E)
    (I : L2.Inv X pins σ H s) (r : Vals vs us) (h : sp vs H Q E) : wpAny (model X.prog X.w) X.A (call (.ref f) us) (PySem.W.CmpBack (EP X pins σ Q)) X.xe s :=
  wpAny_mono (run_fn F hr hb .nil hx I r (by rw [List.append_nil]; exact h)) (fun _ _ z => back_of z) fun _ _ z => z
/-- o op p, both of the class at C -/
def rOO (C : Addr) (sp : Sp) (E : XK) : R2 := fun x y H Q => ∃ a b dx dy fs gs, x = .ref a ∧ y = .ref b ∧ H a = some (.ins C dx fs) ∧ H b = some (.ins C dy gs) ∧ sp [x, y] H Q E
/-- o op n, n an int -/
def rOI (C : Addr) (sp : Sp) (E : XK) : R2 := fun x y H Q => ∃ a n dx fs, x = .ref a ∧ y = .int n ∧ H a = some (.ins C dx fs) ∧ sp [x, y] H Q E
/-- n op o, n an int: the reflected method -/
def rIO (C : Addr) (sp : Sp) (E : XK) : R2 := fun x y H Q => ∃ n b dx fs, x = .int n ∧ y = .ref b ∧ H b = some (.ins C dx fs) ∧ sp [y, x] H Q E
theorem op_oo {op : Operator} (hd : PySem.dunder op.info.2 = m) (M : Meth X.K C m (He.fAd X.K (cn, some m))) (hc : PySem.W.selfFirst X.K C = true) (O : OkD X.prog X.w X.K X.mg X.base CX k (cn, some m) ps [] sp) (hr : Room j X.A) (hj : k ≤ j) (hx : Passes CX X E) : OpR X (binaryOp op) (rOO C sp E) := by
  obtain ⟨fd, ds, F, b, v⟩ := O.ex
  cases v
  intro pins s σ H x y v u Q I rx ry h
  obtain ⟨a, b', dx, dy, fs, gs, rfl, rfl, ha, hb, hsp⟩ := h
  cases rx
  cases ry
  obtain ⟨mA, J, _⟩ := ins_get I.hok ha
  obtain ⟨mB, J', _⟩ := ins_get I.hok hb
  obtain ⟨od, J, _⟩ := J.look
  obtain ⟨od', J', _⟩ := J'.look
  obtain ⟨mm, hF⟩ := I.fr
  exact PySem.W.binop_K hF I.ok.mod.kin J J'.type hc (by rw [hd]; exact M.at_) M.fn (run_own (vs := [V.ref a, V.ref b']) F (hr.mono hj) b hx I (.cons rfl (.cons rfl .nil)) hsp)
theorem op_oi {op : Operator} {fo ro rc : Option Value} (hd : PySem.dunder op.info.2 = m) (M : Meth X.K C m (He.fAd X.K (cn, some m))) (hc : PySem.W.selfFirst X.K C = true) (h2 : PySem.W.findIn X.K (.ref C) (dunderR op.info.2) = some rc) (hp : rc = none ∨ ∃ g : Addr, rc = some (.ref g))
    (h3 : PySem.W.findIn X.K (.type "int") (PySem.dunder op.info.2) = some fo) (h4 : PySem.W.findIn X.K (.type "int") (dunderR op.info.2) = some ro) (h5 : PySem.W.subIn X.K (.type "int") (.ref C) = some false)
    (O : OkD X.prog X.w X.K X.mg X.base CX k (cn, some m) ps [] sp) (hr : Room j X.A) (hj : k ≤ j) (hx : Passes CX X E) : OpR X (binaryOp op) (rOI C sp E) := by
  obtain ⟨fd, ds, F, b, v⟩ := O.ex
  cases v
  intro pins s σ H x y v u Q I rx ry h
  obtain ⟨a, n, dx, fs, rfl, rfl, ha, hsp⟩ := h
  cases rx
  obtain ⟨t, rfl⟩ := ry
  obtain ⟨mA, J, _⟩ := ins_get I.hok ha
  obtain ⟨od, J, _⟩ := J.look
  obtain ⟨mm, hF⟩ := I.fr
  exact PySem.W.ksp_binT hF I.ok.mod.kin J rfl hc (by rw [hd]; exact M.at_) M.fn h2 hp h3 h4 h5 (run_own (vs := [V.ref a, V.int n]) F (hr.mono hj) b hx I (.cons rfl (.cons ⟨t, rfl⟩ .nil)) hsp)
theorem op_io {op : Operator} {f0 : Addr} {id : String} {B : Builtin} (hd : dunderR op.info.2 = m) (M : Meth X.K C m (He.fAd X.K (cn, some m))) (hc : PySem.W.selfFirst X.K C = true) (h2 : PySem.W.findIn X.K (.ref C) (PySem.dunder op.info.2) = some (some (.ref f0))) (hm : PySem.W.mroIn X.K C (.type "int") = some false)
    (hfT : fillsNumberSlot (.type "int") op.info.2 = pure true) (slot : Slot "int" (PySem.dunder op.info.2) id) (entry : entryFor table id = some B) (ha : ∀ a b, argsOk id ⟨[a, b], []⟩) (hB : Declines B)
    (O : OkD X.prog X.w X.K X.mg X.base CX k (cn, some m) ps [] sp) (hr : Room j X.A) (hj : k ≤ j) (hx : Passes CX X E) : OpR X (binaryOp op) (rIO C sp E) := by
  obtain ⟨fd, ds, F, b, v⟩ := O.ex
  cases v
  intro pins s σ H x y v u Q I rx ry h
  obtain ⟨n, b', dx, fs, rfl, rfl, hb, hsp⟩ := h
  obtain ⟨t, rfl⟩ := rx
  cases ry
  obtain ⟨mA, J, _⟩ := ins_get I.hok hb
  obtain ⟨od, J, _⟩ := J.look
  exact bin_int_own I.kIn J rfl hc h2 (by rw [hd]; exact M.at_) M.fn hm hfT slot entry (ha _ _) hB (run_own (vs := [V.ref b', V.int n]) F (hr.mono hj) b hx I (.cons rfl (.cons ⟨t, rfl⟩ .nil)) hsp)
/-- -o -/
def rUO (C : Addr) (sp : Sp) (E : XK) : V → Hp → VK → Prop := fun x H Q => ∃ a dx fs, x = .ref a ∧ H a = some (.ins C dx fs) ∧ sp [x] H Q E
theorem un_negO (M : Meth X.K C "__neg__" (He.fAd X.K (cn, some "__neg__"))) (O : OkD X.prog X.w X.K X.mg X.base CX k (cn, some "__neg__") ps [] sp) (hr : Room j X.A) (hj : k ≤ j) (hx : Passes CX X E) : UnR X (unaryOp .USub) (rUO C sp E) := by
  obtain ⟨fd, ds, F, b, v⟩ := O.ex
  cases v
  intro pins s σ H x v Q I rx h
  obtain ⟨a, dx, fs, rfl, ha, hsp⟩ := h
  cases rx
  obtain ⟨mA, J, _⟩ := ins_get I.hok ha
  obtain ⟨od, J, _⟩ := J.look
  obtain ⟨mm, hF⟩ := I.fr
  exact PySem.W.ksp_neg hF I.ok.mod.kin J M.at_ M.fn (run_fn (vs := [V.ref a]) F (hr.mono hj) b .nil hx I (.cons rfl .nil) hsp)
/-- abs(o) -/
def rAbsO (C : Addr) (sp : Sp) : List V → Hp → VK → Prop := fun xs H Q => ∃ a dx fs, xs = [.ref a] ∧ H a = some (.ins C dx fs) ∧ sp xs H Q fun _ _ _ => False
theorem call_absO (M : Meth X.K C "__abs__" (He.fAd X.K (cn, some "__abs__"))) (O : OkD X.prog X.w X.K X.mg X.base CX0 k (cn, some "__abs__") ps [] sp) (hr : Room j X.A) (hj : k + 2 ≤ j) : CallR X (.builtin "abs") (rAbsO C sp) := by
  obtain ⟨fd, ds, F, b, v⟩ := O.ex
  cases v
  intro pins s σ H xs us Q I r h
  obtain ⟨a, dx, fs, rfl, ha, hsp⟩ := h
  obtain ⟨u, rfl, ru⟩ : ∃ u, us = [u] ∧ RelV (.ref a) u := by
    cases r with
    | cons p q => cases q; exact ⟨_, rfl, p⟩
  cases ru
  obtain ⟨mA, J, _⟩ := ins_get I.hok ha
  obtain ⟨od, J, _⟩ := J.look
  have hr2 : Room (k + 1) X.A.in1 := (hr.mono hj).in1
  have hr3 : Room k X.A.in1 := hr2.mono (by omega)
  have hl := F.len _ _ _ _ hsp
  have hb := b s [.ref a] I.kIn (by simpa using hl)
  simp only [List.append_nil] at hb
  refine PySem.Calls.call_function_entry PyProof.Rows.kind_abs PyProof.Rows.plain_abs PyProof.Rows.entry_abs (PyProof.Rows.args_abs _) ?_
  unfold PySem.Builtin.«abs»
  refine wpAny_bind (wpAny_pure ?_)
  refine wpAny_bind (m := callSpecial? (.ref a) (Str.ofString "__abs__")) (PySem.W.special_fn I.kIn J M.at_ (beq_iff_eq.mp M.fn) ?_)
  refine wpAny_call (codeAny_mono (F.run X.A.in1 X.stack s H ⟨[.ref a], []⟩ [.ref a] [.ref a] _ _ hr3 I.env0.in1 hb (.cons rfl .nil) hsp) fun r s' hq => ?_)
  cases r with
  | error e => exact hq.elim
  | ok fl =>
    cases fl with
    | ret w => exact wpAny_pure ⟨_, rfl, I.after hq⟩
    | next => exact False.elim hq
    | brk => exact False.elim hq
    | cont => exact False.elim hq
/-- comparisons -/
theorem cmp_oo {op : CmpOp} (hd : (cmpInfo op).2.1 = m) (hop : compareOp op = richCompare op) (M : Meth X.K C m (He.fAd X.K (cn, some m))) (O : OkD X.prog X.w X.K X.mg X.base CX k (cn, some m) ps [] sp) (hr : Room j X.A) (hj : k ≤ j) (hx : Passes CX X E) : OpR X (compareOp op) (rOO C sp E) := by
  obtain ⟨fd, ds, F, b, v⟩ := O.ex
  cases v
  intro pins s σ H x y v u Q I rx ry h
  obtain ⟨a, b', dx, dy, fs, gs, rfl, rfl, ha, hb, hsp⟩ := h
  cases rx
  cases ry
  obtain ⟨mA, J, _⟩ := ins_get I.hok ha
  obtain ⟨mB, J', _⟩ := ins_get I.hok hb
  obtain ⟨od, J, _⟩ := J.look
  obtain ⟨od', J', _⟩ := J'.look
  obtain ⟨mm, hF⟩ := I.fr
  rw [hop]
  exact PySem.W.cmp_K (tb := .ref C) hr.units0 hF I.ok.mod.kin J J'.type (by simp [PySem.W.notFirst]) (by rw [hd]; exact M.at_) M.fn (run_own (vs := [V.ref a, V.ref b']) F (hr.mono hj) b hx I (.cons rfl (.cons rfl .nil)) hsp)
theorem cmp_oi {op : CmpOp} (hd : (cmpInfo op).2.1 = m) (hop : compareOp op = richCompare op) (M : Meth X.K C m (He.fAd X.K (cn, some m))) (h5 : PySem.W.subIn X.K (.type "int") (.ref C) = some false)
    (O : OkD X.prog X.w X.K X.mg X.base CX k (cn, some m) ps [] sp) (hr : Room j X.A) (hj : k ≤ j) (hx : Passes CX X E) : OpR X (compareOp op) (rOI C sp E) := by
  obtain ⟨fd, ds, F, b, v⟩ := O.ex
  cases v
  intro pins s σ H x y v u Q I rx ry h
  obtain ⟨a, n, dx, fs, rfl, rfl, ha, hsp⟩ := h
  cases rx
  obtain ⟨t, rfl⟩ := ry
  obtain ⟨mA, J, _⟩ := ins_get I.hok ha
  obtain ⟨od, J, _⟩ := J.look
  obtain ⟨mm, hF⟩ := I.fr
  rw [hop]
  exact PySem.W.cmp_K (tb := .type "int") hr.units0 hF I.ok.mod.kin J (PySem.W.Looks.of_pure rfl) (by unfold PySem.W.notFirst; rw [h5]; simp) (by rw [hd]; exact M.at_) M.fn (run_own (vs := [V.ref a, V.int n]) F (hr.mono hj) b hx I (.cons rfl (.cons ⟨t, rfl⟩ .nil)) hsp)
theorem cmp_io {op : CmpOp} {id : String} {B : Builtin} (hd : (cmpInfo op).2.2 = m) (hop : compareOp op = richCompare op) (M : Meth X.K C m (He.fAd X.K (cn, some m))) (hm : PySem.W.mroIn X.K C (.type "int") = some false)
    (slot : Slot "int" (cmpInfo op).2.1 id) (entry : entryFor table id = some B) (ha : ∀ a b, argsOk id ⟨[a, b], []⟩) (hB : Declines B)
    (O : OkD X.prog X.w X.K X.mg X.base CX k (cn, some m) ps [] sp) (hr : Room j X.A) (hj : k ≤ j) (hx : Passes CX X E) : OpR X (compareOp op) (rIO C sp E) := by
  obtain ⟨fd, ds, F, b, v⟩ := O.ex
  cases v
  intro pins s σ H x y v u Q I rx ry h
  obtain ⟨n, b', dx, fs, rfl, rfl, hb, hsp⟩ := h
  obtain ⟨t, rfl⟩ := rx
  cases ry
  obtain ⟨mA, J, _⟩ := ins_get I.hok hb
  obtain ⟨od, J, _⟩ := J.look
  rw [hop]
  exact cmp_int_own hr.units0 I.kIn J rfl (by rw [hd]; exact M.at_) M.fn hm slot entry (ha _ _) hB (run_own (vs := [V.ref b', V.int n]) F (hr.mono hj) b hx I (.cons rfl (.cons ⟨t, rfl⟩ .nil)) hsp)
end
end Vf

set_option Elab.async false
set_option linter.all false
set_option maxRecDepth 100000
set_option maxHeartbeats 2000000
namespace Vf
open PySem PySem.Spec PyProof.Rows L2
section
variable {X : Cx} {C : Addr} {bmB : List Value} {B newId initId : String}
/-- X(), X an error of the text's own without an __init__ -/
theorem pmk_own0 {x : Str} {p pos : Pos} (F : ExcBaseFacts B newId initId bmB) (q : PySem.W.excIn X.K C bmB newId = true) (gC : X.mg x = some (.ref C)) (kC : PySem.W.keepIn X.K (.ref C) = true) (r : Raises X (.ref C)) (hg : Gl X x)
    (hdb : (x == ("__debug__" : Str)) = false := by decide) : PMk X (.Call (.Name x p) [] [] pos) (fun _ H Q => Q (.ref C) none H) := by
  intro pins s σ H Q I h
  refine wpAny_Call_Name_kw (ld_glob I hg gC ?_ hdb)
  refine PySem.W.callWith_K0 I.kIn kC ?_
  obtain ⟨_, _, _, _, _, _, _, _, _, _, _, _, _, _, _, _, _, hC, hN, hni, T⟩ := exc_obj I.kIn q
  show wpAny _ _ (call (.ref C) []) _ _ _
  exact wpAny_call_exc_subT F T hC hN hni (fun h' e hm => L2.mk_of I hm r h (I.hok.gone hm.new)) (Nat.zero_le _)
end
theorem c_raise0 {X : Cx} {x : Str} {p pos pos2 : Pos} {W : WX} (c : (He.Fa.exc x).ok X.K = true) (hm : X.mg x = some (.ref (He.ga X.K x))) (tk : Takes X W) (hc : X.calm = true := by rfl) (hg : Gl X x := by rfl) (hdb : (x == ("__debug__" : Str)) = false := by decide) :
    PS X (.Raise (some (.Call (.Name x p) [] [] pos)) none pos2) (fun _ σ H => W (.ref (He.ga X.K x)) none σ H) := by
  obtain ⟨h1, h2, h3, h4⟩ := He.exc_ok c
  exact ps_raise hc tk (pmk_own0 PySem.F.excBase_ValueError h1 hm h2 (raises_own h3 h4) hg hdb)
theorem passX {X : Cx} {E : XK} (tk : Takes X (fun cls d _ H => E cls d H)) : Passes (L2.CX X.prog X.w) X E := passes_call tk fun _ _ _ _ h => h
theorem opr_or {X : Cx} {f : Value → Value → Sem Value} {r1 r2 : R2} (h1 : OpR X f r1) (h2 : OpR X f r2) : OpR X f (fun x y H Q => r1 x y H Q ∨ r2 x y H Q) := fun pins s σ H x y v u Q I rx ry h => by
  rcases h with h | h
  · exact h1 pins s σ H x y v u Q I rx ry h
  · exact h2 pins s σ H x y v u Q I rx ry h
section
variable (K : PySem.W.Frag)
theorem int_add : PySem.W.findIn K (.type "int") (PySem.dunder "add") = some (some (.builtin "int.__add__")) := by kernel_rfl
theorem int_sub : PySem.W.findIn K (.type "int") (PySem.dunder "sub") = some (some (.builtin "int.__sub__")) := by kernel_rfl
theorem int_mul : PySem.W.findIn K (.type "int") (PySem.dunder "mul") = some (some (.builtin "int.__mul__")) := by kernel_rfl
theorem int_fdv : PySem.W.findIn K (.type "int") (PySem.dunder "floordiv") = some (some (.builtin "int.__floordiv__")) := by kernel_rfl
theorem int_radd : PySem.W.findIn K (.type "int") (dunderR "add") = some (some (.builtin "int.__radd__")) := by kernel_rfl
theorem int_rsub : PySem.W.findIn K (.type "int") (dunderR "sub") = some (some (.builtin "int.__rsub__")) := by kernel_rfl
theorem int_rmul : PySem.W.findIn K (.type "int") (dunderR "mul") = some (some (.builtin "int.__rmul__")) := by kernel_rfl
theorem int_rfdv : PySem.W.findIn K (.type "int") (dunderR "floordiv") = some (some (.builtin "int.__rfloordiv__")) := by kernel_rfl
end
end Vf

set_option Elab.async false
set_option linter.all false
set_option maxRecDepth 100000
set_option maxHeartbeats 2000000
namespace Vf
open PySem PySem.Spec PyProof.Rows L2
section
open PySem.W PySem.Calls
variable {prog : Program} {w : World} {A : Around} {E : Value → Shared → Prop} {s : Shared} {K : Frag} {x C f L : Addr} {h₀ : Heap} {m : Str → Option Value} {ox : Obj} {od : Option Obj}
/-- x, an instance of the text's own, is of no built-in type T -/
theorem inst_not {T : String} {Q : Bool → Shared → Prop} (X : K.In s.heap) (I : InstAt s.heap x ox C od) (hm : mroIn K C (.type T) = some false) (h : Q false s) : wpAny (model prog w) A (isInstance (.ref x) (.type T)) Q E s := by
  unfold isInstance
  exact wpAny_bind (I.type.here ((looks_mroIn X hm).here h))
theorem eq_no_none {Q : Fin → Shared → Prop} (h : Q (.done (.ret .notImplemented)) s) : wpAny (model prog w) A (PySem.Builtin.«NoneType.__eq__» ⟨[.none, .ref x], []⟩) Q E s := by
  unfold PySem.Builtin.«NoneType.__eq__»
  wp_walk
  exact h
theorem eq_no_int {n : Value} (hn : (∃ b, n = .bool b) ∨ ∃ i t, n = .int i t) (hd : ox.data = .plain) (hx : s.heap.get? x = some ox) {Q : Fin → Shared → Prop} (h : Q (.done (.ret .notImplemented)) s) : wpAny (model prog w) A (PySem.Builtin.«int.__eq__» ⟨[n, .ref x], []⟩) Q E s := by
  obtain ⟨hp, gg, d, tk, os⟩ := s
  obtain ⟨oc, odd, oda, osl⟩ := ox
  dsimp only at hd
  subst hd
  rcases hn with ⟨b, rfl⟩ | ⟨i, t, rfl⟩
  · wp_walk using AutoSeq1.wpAny_loadPart' hx
    exact h
  · wp_walk using AutoSeq1.wpAny_loadPart' hx
    exact h
theorem eq_no_str {z : Str} {t : Tok} (hd : ox.data = .plain) (hx : s.heap.get? x = some ox) {Q : Fin → Shared → Prop} (h : Q (.done (.ret .notImplemented)) s) : wpAny (model prog w) A (PySem.Builtin.«str.__eq__» ⟨[.str z t, .ref x], []⟩) Q E s := by
  obtain ⟨hp, gg, d, tk, os⟩ := s
  obtain ⟨oc, odd, oda, osl⟩ := ox
  dsimp only at hd
  subst hd
  wp_walk using AutoSeq1.wpAny_loadPart' hx
  exact h
theorem eq_no_tup {a : Addr} (X : K.In s.heap) (I : InstAt s.heap x ox C od) (hm : mroIn K C (.type "tuple") = some false) {Q : Fin → Shared → Prop} (h : Q (.done (.ret .notImplemented)) s) : wpAny (model prog w) A (PySem.Builtin.«tuple.__eq__» ⟨[.ref a, .ref x], []⟩) Q E s := by
  wp_walk using inst_not X I hm
  exact h
theorem eq_no_lst {a : Addr} (X : K.In s.heap) (I : InstAt s.heap x ox C od) (hm : mroIn K C (.type "list") = some false) {Q : Fin → Shared → Prop} (h : Q (.done (.ret .notImplemented)) s) : wpAny (model prog w) A (PySem.Builtin.«list.__eq__» ⟨[.ref a, .ref x], []⟩) Q E s := by
  wp_walk using inst_not X I hm
  exact h
theorem eq_no_dic {a : Addr} {oa : Obj} (ha : s.heap.get? a = some oa) (X : K.In s.heap) (I : InstAt s.heap x ox C od) (hm : mroIn K C (.type "dict") = some false) {Q : Fin → Shared → Prop} (h : Q (.done (.ret .notImplemented)) s) : wpAny (model prog w) A (PySem.Builtin.«dict.__eq__» ⟨[.ref a, .ref x], []⟩) Q E s := by
  wp_walk using inst_not X I hm
  exact h
/-- v == x: v's slot declines, x's own is asked -/
theorem eq_any_own {v : Value} {T id : String} {B : Builtin} {Q : Value → Shared → Prop} (hT : s.TypeIs v T) (hu : A.units < cLine) (X : K.In s.heap) (I : InstAt s.heap x ox C od)
    (hr : findIn K (.ref C) "__eq__" = some (some (.ref f))) (hf : isFn K (.ref f) = true) (hm : mroIn K C (.type T) = some false)
    (slot : Slot T (cmpInfo .Eq).2.1 id) (entry : entryFor table id = some B) (ha : argsOk id ⟨[v, .ref x], []⟩) (hB : ∀ Q : Fin → Shared → Prop, Q (.done (.ret .notImplemented)) s → wpAny (model prog w) A.in1 (B ⟨[v, .ref x], []⟩) Q E s)
    (h : wpAny (model prog w) A (call (.ref f) [.ref x, v]) (PySem.W.CmpBack Q) E s) : wpAny (model prog w) A (richCompare .Eq v (.ref x)) Q E s := by
  have one : wpAny (model prog w) A (tryCompare (.ref x) "__eq__" v) (fun r s' => ∃ z, r = some z ∧ Q z s') E s := by
    unfold tryCompare
    refine wpAny_bind (ifBound_K X I hr hf (wpAny_mono h (fun z s' hv => ?_) fun _ _ e => e))
    cases z <;> first | exact hv.elim | exact wpAny_pure ⟨_, rfl, hv⟩
  have two : wpAny (model prog w) A (tryCompare v (cmpInfo .Eq).2.1 (.ref x)) (fun r s' => r = none ∧ s' = s) E s :=
    wpAny_tryCompare_declines hT slot (wpAny_call_entry slot hT entry (hB _ ⟨_, rfl, rfl, rfl, rfl⟩) ha)
  have hne : (Value.type T != Value.ref C) = true := bne_iff_ne.mpr fun q => by cases q
  unfold richCompare
  simp only [hT.oneThing_none]
  refine wpAny_holding (wpAny_bind (wpAny_cRoomFor hu ?_))
  refine wpAny_bind (wpAny_typeOf hT (wpAny_bind (I.type.here ?_)))
  simp only [hne, if_true]
  refine wpAny_bind ((looks_mroIn X hm).here ?_)
  simp only [Bool.false_eq_true, if_false]
  refine wpAny_bind (wpAny_mono two (fun r s' z => ?_) fun _ _ e => e)
  obtain ⟨rfl, rfl⟩ := z
  simp only [Bool.not_false, if_true]
  refine wpAny_bind (wpAny_mono one (fun r s' z => ?_) fun _ _ e => e)
  obtain ⟨z, rfl, hq⟩ := z
  exact wpAny_pure hq
theorem sub_not {n : String} {l : List Value} (e : fastBuiltinMro n = some l) (h : ∀ a, l.contains (.ref a) = false) : subIn K (.type n) (.ref C) = some false := by
  show (fastBuiltinMro n).map (·.contains (.ref C)) = some false
  rw [e, Option.map_some, h]
end
theorem looks_ty {M : Model} {s : Shared} {u : Value} {n : String} (h : s.TypeIs u n) : PySem.W.Looks M s.heap (typeOf u) (.type n) := fun A Q E s' k q => by
  refine wpAny_typeOf (T := n) ?_ q
  cases u with
  | ref a =>
    obtain ⟨o, h1, h2⟩ := h
    exact ⟨o, k _ _ h1, h2⟩
  | _ => exact h
/-! ### odd values beside an own object -/
def oddK : List String := ["bool", "NoneType", "str", "tuple", "list", "dict"]
section
variable {X : Cx} {CX : CXT} {k j : Nat} {C : Addr} {cn m : Str} {ps : List Str} {sp : Sp} {E : XK}
/-- a built-in type none of our classes is over, nor they over it -/
theorem odd_is {pins : List (Addr × Obj)} {s : Shared} {σ : L2.St} {H : Hp} {x : V} {u : Value} (I : L2.Inv X pins σ H s) (o : Odd H x) (r : RelV x u) :
    ∃ n ∈ oddK, s.TypeIs u n := by
  cases o with
  | bl b => cases r; exact ⟨"bool", by simp [oddK], rfl⟩
  | non => cases r; exact ⟨"NoneType", by simp [oddK], rfl⟩
  | str z => obtain ⟨t, rfl⟩ := r; exact ⟨"str", by simp [oddK], rfl⟩
  | tup h =>
    cases r
    obtain ⟨_, _, _, o, h1, h2, _⟩ := (show ObjOk X.prog X.w H s.heap _ (.tup _) from I.hok _ _ h)
    exact ⟨"tuple", by simp [oddK], o, h1, h2⟩
  | lst h =>
    cases r
    obtain ⟨_, _, n, _, h1⟩ := (show ObjOk X.prog X.w H s.heap _ (.lst _) from I.hok _ _ h)
    exact ⟨"list", by simp [oddK], _, h1, rfl⟩
  | dic h =>
    cases r
    obtain ⟨_, _, vs, _, o, es, ep, h1, h2, _⟩ := (show ObjOk X.prog X.w H s.heap _ (.dK _) from I.hok _ _ h)
    exact ⟨"dict", by simp [oddK], o, h1, h2.1⟩
theorem odd_first {n : String} (h : n ∈ oddK) : PySem.W.subIn X.K (.type n) (.ref C) = some false := by
  simp only [oddK, List.mem_cons, List.not_mem_nil, or_false] at h
  rcases h with rfl | rfl | rfl | rfl | rfl | rfl
  · exact sub_not (l := [.type "bool", .type "int", .type "object"]) (by decide +kernel) fun a => by simp
  · exact sub_not (l := [.type "NoneType", .type "object"]) (by decide +kernel) fun a => by simp
  · exact sub_not (l := [.type "str", .type "object"]) (by decide +kernel) fun a => by simp
  · exact sub_not (l := [.type "tuple", .type "object"]) (by decide +kernel) fun a => by simp
  · exact sub_not (l := [.type "list", .type "object"]) (by decide +kernel) fun a => by simp
  · exact sub_not (l := [.type "dict", .type "object"]) (by decide +kernel) fun a => by simp
/-- a method of the text's own asked by the machine, somewhere below the running body -/
theorem run_ownA {A : Around} {f : Addr} {fd : FuncData} {pins : List (Addr × Obj)} {σ : L2.St} {H : Hp} {s : Shared} {Q : VK} {us : List Value} {vs : List V} (F : FnOk X.prog X.w X.K X.mg X.base CX k f fd ps sp) (sb : Sub X k A) (hb : L2.Binds X.K fd ps []) (hx : Passes CX X E)
    (I : L2.Inv X pins σ H s) (r : Vals vs us) (h : sp vs H Q E) : wpAny (model X.prog X.w) A (call (.ref f) us) (PySem.W.CmpBack (EP X pins σ Q)) X.xe s := by
  have e0 : Env0 X.prog X.w X.K X.mg X.base A X.stack s H := by
    have e := I.env0
    exact ⟨by rw [sb.fr]; exact e.frames, e.mod, e.bs, e.bsz, e.funs, e.frf, e.hok, e.bare⟩
  have hl := F.len _ _ _ _ h
  refine wpAny_call (codeAny_mono (F.run A X.stack s H ⟨us, []⟩ us vs _ E sb.room e0 (by
    have := hb s us I.kIn (by rw [List.append_nil, ← r.length, hl])
    simpa using this) r h) fun r s' hq => ?_)
  cases r with
  | error e => exact hx pins σ H s e s' I hq
  | ok fl =>
    cases fl with
    | ret w => exact back_of (I.after hq)
    | next => exact False.elim hq
    | brk => exact False.elim hq
    | cont => exact False.elim hq
/-- x == y, x odd, y of the class at C: its own == is asked -/
theorem rc_odd {A : Around} {pins : List (Addr × Obj)} {s : Shared} {σ : L2.St} {H : Hp} {x : V} {u : Value} {b dx : Addr} {fs : List (Str × V)} {Q : VK} (sb : Sub X k A) (M : Meth X.K C "__eq__" (He.fAd X.K (cn, some "__eq__")))
    (hm : ∀ n ∈ oddK, PySem.W.mroIn X.K C (.type n) = some false) (O : OkD X.prog X.w X.K X.mg X.base CX k (cn, some "__eq__") ps [] sp) (hx : Passes CX X E) (I : L2.Inv X pins σ H s) (o : Odd H x) (rx : RelV x u) (hb : H b = some (.ins C dx fs)) (h0 : sp [.ref b, x] H Q E) :
    wpAny (model X.prog X.w) A (richCompare .Eq u (.ref b)) (EP X pins σ Q) X.xe s := by
  obtain ⟨fd, ds, F, bi, v⟩ := O.ex
  cases v
  obtain ⟨mA, J, _⟩ := ins_get I.hok hb
  obtain ⟨od, J, _⟩ := J.look
  have go := run_ownA (vs := [V.ref b, x]) (us := [.ref b, u]) F sb bi hx I (.cons rfl (.cons rx .nil)) h0
  have hu := sb.room.units0
  cases o with
  | bl y =>
    cases rx
    exact eq_any_own (T := "bool") rfl hu I.kIn J M.at_ M.fn (hm _ (by simp [oddK])) PySem.F.slot_bool_eq PySem.F.entry_int_eq (PySem.F.args_int_eq_2 _ _) (fun Q q => eq_no_int (.inl ⟨_, rfl⟩) rfl J.at_ q) go
  | non =>
    cases rx
    exact eq_any_own (T := "NoneType") rfl hu I.kIn J M.at_ M.fn (hm _ (by simp [oddK])) PySem.F.slot_NoneType_eq PySem.F.entry_NoneType_eq (PySem.F.args_NoneType_eq_2 _ _) (fun Q q => eq_no_none q) go
  | str z =>
    obtain ⟨t, rfl⟩ := rx
    exact eq_any_own (T := "str") rfl hu I.kIn J M.at_ M.fn (hm _ (by simp [oddK])) PySem.F.slot_str_eq PySem.F.entry_str_eq (PySem.F.args_str_eq_2 _ _) (fun Q q => eq_no_str rfl J.at_ q) go
  | tup h =>
    cases rx
    obtain ⟨_, _, _, o, h1, h2, _⟩ := (show ObjOk X.prog X.w H s.heap _ (.tup _) from I.hok _ _ h)
    exact eq_any_own (T := "tuple") ⟨o, h1, h2⟩ hu I.kIn J M.at_ M.fn (hm _ (by simp [oddK])) PySem.F.slot_tuple_eq PySem.F.entry_tuple_eq (PySem.F.args_tuple_eq_2 _ _) (fun Q q => eq_no_tup I.kIn J (hm _ (by simp [oddK])) q) go
  | lst h =>
    cases rx
    obtain ⟨_, _, n, _, h1⟩ := (show ObjOk X.prog X.w H s.heap _ (.lst _) from I.hok _ _ h)
    exact eq_any_own (T := "list") ⟨_, h1, rfl⟩ hu I.kIn J M.at_ M.fn (hm _ (by simp [oddK])) PySem.F.slot_list_eq PySem.F.entry_list_eq (PySem.F.args_list_eq_2 _ _) (fun Q q => eq_no_lst I.kIn J (hm _ (by simp [oddK])) q) go
  | dic h =>
    cases rx
    obtain ⟨_, _, vs, _, o, es, ep, h1, h2, _⟩ := (show ObjOk X.prog X.w H s.heap _ (.dK _) from I.hok _ _ h)
    exact eq_any_own (T := "dict") ⟨o, h1, h2.1⟩ hu I.kIn J M.at_ M.fn (hm _ (by simp [oddK])) PySem.F.slot_dict_eq PySem.F.entry_dict_eq (PySem.F.args_dict_eq_2 _ _) (fun Q q => eq_no_dic h1 I.kIn J (hm _ (by simp [oddK])) q) go
/-- odd == o -/
def rDO (C : Addr) (sp : Sp) (E : XK) : R2 := fun x y H Q => ∃ b dx fs, Odd H x ∧ y = .ref b ∧ H b = some (.ins C dx fs) ∧ sp [y, x] H Q E
theorem eq_do (M : Meth X.K C "__eq__" (He.fAd X.K (cn, some "__eq__"))) (hm : ∀ n ∈ oddK, PySem.W.mroIn X.K C (.type n) = some false) (O : OkD X.prog X.w X.K X.mg X.base CX k (cn, some "__eq__") ps [] sp) (hr : Room j X.A) (hj : k ≤ j) (hx : Passes CX X E) : OpR X (compareOp .Eq) (rDO C sp E) := by
  intro pins s σ H x y v u Q I rx ry h
  obtain ⟨b, dx, fs, o, rfl, hb, hsp⟩ := h
  cases ry
  exact rc_odd ⟨hr.mono hj, rfl⟩ M hm O hx I o rx hb hsp
/-- o ? odd -/
def rOD (C : Addr) (sp : Sp) (E : XK) : R2 := fun x y H Q => ∃ a dx fs, x = .ref a ∧ H a = some (.ins C dx fs) ∧ Odd H y ∧ sp [x, y] H Q E
theorem cmp_od {op : CmpOp} (hd : (cmpInfo op).2.1 = m) (hop : compareOp op = richCompare op) (M : Meth X.K C m (He.fAd X.K (cn, some m))) (O : OkD X.prog X.w X.K X.mg X.base CX k (cn, some m) ps [] sp) (hr : Room j X.A) (hj : k ≤ j) (hx : Passes CX X E) : OpR X (compareOp op) (rOD C sp E) := by
  obtain ⟨fd, ds, F, b, v⟩ := O.ex
  cases v
  intro pins s σ H x y v u Q I rx ry h
  obtain ⟨a, dx, fs, rfl, ha, o, hsp⟩ := h
  cases rx
  obtain ⟨mA, J, _⟩ := ins_get I.hok ha
  obtain ⟨od, J, _⟩ := J.look
  obtain ⟨mm, hF⟩ := I.fr
  obtain ⟨n, hn, ht⟩ := odd_is I o ry
  rw [hop]
  exact PySem.W.cmp_K (tb := .type n) hr.units0 hF I.ok.mod.kin J (looks_ty ht) (by unfold PySem.W.notFirst; rw [odd_first hn]; simp) (by rw [hd]; exact M.at_) M.fn (run_own (vs := [V.ref a, y]) F (hr.mono hj) b hx I (.cons rfl (.cons ry .nil)) hsp)
/-! ### x in a list, where == is the text's own -/
/-- == inside a built-in's body: its answer; it only makes objects -/
abbrev Eqb := V → V → Hp → Bool → Prop
def EqB (X : Cx) (n : Nat) (D : Eqb) : Prop :=
  ∀ (A : Around) (pins : List (Addr × Obj)) (s : Shared) (σ : L2.St) (H : Hp) (x y : V) (u v : Value) (b : Bool), Sub X n A → L2.Inv X pins σ H s → RelV x u → RelV y v → D x y H b →
    wpAny (model X.prog X.w) A (eqBool u v) (fun r s' => r = b ∧ ∃ H', L2.Inv X pins σ H' s' ∧ Ext H H') X.xe s
theorem EqB.or {n : Nat} {D D' : Eqb} (h : EqB X n D) (h' : EqB X n D') : EqB X n (fun x y H b => D x y H b ∨ D' x y H b) := fun A pins s σ H x y u v b sb I rx ry d => by
  rcases d with d | d
  · exact h A pins s σ H x y u v b sb I rx ry d
  · exact h' A pins s σ H x y u v b sb I rx ry d
def DOO (C : Addr) (sp : Sp) (E : XK) : Eqb := fun x y H b => ∃ a c dx dy fs gs, x = .ref a ∧ y = .ref c ∧ H a = some (.ins C dx fs) ∧ H c = some (.ins C dy gs) ∧ (a = c → b = true) ∧ sp [x, y] H (fun v H' => v = .bl b ∧ Ext H H') E
def DDO (C : Addr) (sp : Sp) (E : XK) : Eqb := fun x y H b => ∃ c dy gs, Odd H x ∧ y = .ref c ∧ H c = some (.ins C dy gs) ∧ (x = y → b = true) ∧ sp [y, x] H (fun v H' => v = .bl b ∧ Ext H H') E
theorem eqB_of_rc {A : Around} {pins : List (Addr × Obj)} {s : Shared} {σ : L2.St} {H : Hp} {u v : Value} {b : Bool} (hs : (u == v) = true → b = true) (hf : ∀ i t, u ≠ .float i t) (I : L2.Inv X pins σ H s)
    (h : wpAny (model X.prog X.w) A (richCompare .Eq u v) (EP X pins σ (fun v H' => v = .bl b ∧ Ext H H')) X.xe s) : wpAny (model X.prog X.w) A (eqBool u v) (fun r s' => r = b ∧ ∃ H', L2.Inv X pins σ H' s' ∧ Ext H H') X.xe s := by
  unfold eqBool
  refine wpAny_holding ?_
  refine wpAny_ite_split (fun hab => ?_) (fun _ => ?_)
  · refine wpAny_bind (wpAny_rule ?_)
    exact wpAny_pure ⟨(hs hab).symm, H, I, Ext.rfl'⟩
  · have tail : wpAny (model X.prog X.w) A (richCompare .Eq u v >>= truthOfDropped) (fun r s' => r = b ∧ ∃ H', L2.Inv X pins σ H' s' ∧ Ext H H') X.xe s := by
      refine wpAny_bind (wpAny_mono h (fun z s' hz => ?_) fun _ _ x => x)
      obtain ⟨v', H', I', rz, e, ex⟩ := hz
      subst e
      cases rz
      exact wpAny_truthy_bool ⟨rfl, H', I', ex⟩
    cases u with
    | float i t => exact absurd rfl (hf i t)
    | _ => exact tail
theorem eqB_oo {n : Nat} (M : Meth X.K C "__eq__" (He.fAd X.K (cn, some "__eq__"))) (O : OkD X.prog X.w X.K X.mg X.base CX n (cn, some "__eq__") ps [] sp) (hx : Passes CX X E) : EqB X n (DOO C sp E) := by
  obtain ⟨fd, ds, F, bi, v⟩ := O.ex
  cases v
  intro A pins s σ H x y u v b sb I rx ry d
  obtain ⟨a, c, dx, dy, fs, gs, rfl, rfl, ha, hc, he, hsp⟩ := d
  cases rx
  cases ry
  obtain ⟨mA, J, _⟩ := ins_get I.hok ha
  obtain ⟨mB, J', _⟩ := ins_get I.hok hc
  obtain ⟨od, J, _⟩ := J.look
  obtain ⟨od', J', _⟩ := J'.look
  obtain ⟨mm, hF⟩ := I.fr
  refine eqB_of_rc (fun h => he (by have := eq_of_beq h; injection this)) (fun _ _ z => nomatch z) I ?_
  exact PySem.W.cmp_K (op := .Eq) (tb := .ref C) sb.room.units0 hF I.ok.mod.kin J J'.type (by simp [PySem.W.notFirst]) M.at_ M.fn (run_ownA (vs := [V.ref a, V.ref c]) F sb bi hx I (.cons rfl (.cons rfl .nil)) hsp)
theorem eqB_do {n : Nat} (M : Meth X.K C "__eq__" (He.fAd X.K (cn, some "__eq__"))) (hm : ∀ n ∈ oddK, PySem.W.mroIn X.K C (.type n) = some false) (O : OkD X.prog X.w X.K X.mg X.base CX n (cn, some "__eq__") ps [] sp) (hx : Passes CX X E) : EqB X n (DDO C sp E) := by
  intro A pins s σ H x y u v b sb I rx ry d
  obtain ⟨c, dy, gs, o, rfl, hc, he, hsp⟩ := d
  cases ry
  refine eqB_of_rc (fun h => he ?_) (fun i t z => ?_) I (rc_odd sb M hm O hx I o rx hc hsp)
  · have := eq_of_beq h
    subst this
    cases x with
    | ref a => cases rx; rfl
    | int i => obtain ⟨t, h⟩ := rx; cases h
    | str i => obtain ⟨t, h⟩ := rx; cases h
    | byt i => obtain ⟨t, h⟩ := rx; cases h
    | flt i => obtain ⟨t, h⟩ := rx; cases h
    | _ => cases rx
  · subst z
    cases o with
    | bl => cases rx
    | non => cases rx
    | str => obtain ⟨t, h⟩ := rx; cases h
    | tup => cases rx
    | lst => cases rx
    | dic => cases rx
/-- the loop of list.__contains__; at each turn the list is read anew -/
theorem in_loop {P : Program} {w : World} {A : Around} {R : Result → Shared → Prop} {l : Addr} {N : Nat} {x : Value} (J : Shared → Prop) (e : Nat → Bool)
    (hl : ∀ i s, J s → ∃ (its : List Value) (n : Nat) (dd : Option Addr) (sl : Array (Option Value)), s.heap.get? l = some { cls := .type "list", dict := dd, data := .seq its.toArray n, slots := sl } ∧ its.length = N ∧ ∀ h : i < its.length, wpAny (model P w) A.in1 (eqBool its[i] x) (fun r s' => r = e i ∧ J s') (fun e s' => R (.error e) s') s) (k : Nat) :
    ∀ i : Nat, N - i = k → i ≤ N → ∀ s, J s → (∀ s', J s' → R (.ok (.ret (.bool ((List.range' i k).any e)))) s') →
      wpAny (model P w) A.in1 (Builtin.«list.__contains__.loop» ⟨[.ref l, x, rawInt i], []⟩) (GQ.FinOf P w A R) (fun e s' => R (.error e) s') s := by
  induction k with
  | zero =>
    intro i hk hi s h fin
    obtain ⟨items, n, dd, sl, ho, hn, _⟩ := hl i s h
    have q := fin s h
    obtain ⟨hp, g, d, tk, os⟩ := s
    wp_walk using AutoSeq1.wpAny_loadPart' ho
    have hi : items.toArray[((i : Nat) : Int).toNat]? = none := by simp; omega
    rw [hi]
    wp_walk
    exact q
  | succ k ih =>
    intro i hk hi s h fin
    obtain ⟨items, n, dd, sl, ho, hn, turn⟩ := hl i s h
    have hlt : i < items.length := by omega
    have t := turn hlt
    obtain ⟨hp, g, d, tk, os⟩ := s
    wp_walk using AutoSeq1.wpAny_loadPart' ho
    have hi : items.toArray[((i : Nat) : Int).toNat]? = some items[i] := by simp [hlt]
    rw [hi]
    refine wpAny_bind (wpAny_mono t (fun r s2 q => ?_) fun _ _ z => z)
    obtain ⟨rfl, h2⟩ := q
    rw [List.range'_succ, List.any_cons] at fin
    cases hb : e i with
    | true =>
      rw [hb] at fin
      have q := fin s2 h2
      obtain ⟨hp2, g2, d2, tk2, os2⟩ := s2
      wp_walk
      exact q
    | false =>
      rw [hb] at fin
      have hc : ((i : Int) + 1) = ((i + 1 : Nat) : Int) := by push_cast; rfl
      have go := ih (i + 1) (by omega) (by omega) s2 h2 (fun s' h' => by simpa using fin s' h')
      obtain ⟨hp2, g2, d2, tk2, os2⟩ := s2
      wp_walk
      rw [hc]
      exact ⟨plainId_quiet MeetsSeq.plain_contains_loop _, codeAny_builtin MeetsSeq.entry_contains_loop (by
        rw [Around.under_plainId MeetsSeq.plain_contains_loop _]
        exact go)⟩
/-- x in the list at y: item by item D says how they compare -/
def rInB (K : PySem.W.Frag) (neg : Bool) (D : Eqb) : R2 := fun x y H Q => ∃ (p : Addr) (xs : List V) (bs : List Bool), y = .ref p ∧ SqL K H p xs ∧ Paired (fun z b => ∀ H', Ext H H' → D z x H' b) xs bs ∧ ∀ H', Ext H H' → Q (.bl (if neg then !bs.any id else bs.any id)) H'
theorem any_range (bs : List Bool) : (List.range' 0 bs.length).any (fun i => bs.getD i false) = bs.any id := by
  rw [← List.range_eq_range']
  rw [Bool.eq_iff_iff, List.any_eq_true, List.any_eq_true]
  constructor
  · rintro ⟨i, hi, e⟩
    have h := List.mem_range.mp hi
    refine ⟨bs[i], List.getElem_mem h, ?_⟩
    simpa [List.getD_eq_getElem?_getD, List.getElem?_eq_getElem h] using e
  · rintro ⟨b, hb, e⟩
    obtain ⟨i, h, rfl⟩ := List.mem_iff_getElem.mp hb
    exact ⟨i, List.mem_range.mpr h, by simpa [List.getD_eq_getElem?_getD, List.getElem?_eq_getElem h] using e⟩
theorem paired_get {α β : Type} {R : α → β → Prop} : ∀ {xs : List α} {bs : List β}, Paired R xs bs → ∀ i (h : i < xs.length), ∃ b, bs[i]? = some b ∧ R xs[i] b
  | _, _, .nil, i, h => absurd h (Nat.not_lt_zero _)
  | _ :: _, _ :: _, .cons r p, 0, _ => ⟨_, rfl, r⟩
  | _ :: _, _ :: _, .cons r p, i + 1, h => paired_get p i (by simpa using h)
theorem paired_len {α β : Type} {R : α → β → Prop} : ∀ {xs : List α} {bs : List β}, Paired R xs bs → xs.length = bs.length
  | _, _, .nil => rfl
  | _, _, .cons _ p => congrArg (· + 1) (paired_len p)
theorem in_body {n : Nat} {D : Eqb} {neg : Bool} (h : EqB X n D) (hr : Room (n + 1) X.A) {pins : List (Addr × Obj)} {s : Shared} {σ : L2.St} {H : Hp} {x y : V} {u v : Value} {Q : VK} (I : L2.Inv X pins σ H s) (rx : RelV x u) (ry : RelV y v) (hq : rInB X.K neg D x y H Q) :
    wpAny (model X.prog X.w) X.A (contains v u) (fun r s' => EP X pins σ Q (.bool (if neg then !r else r)) s') X.xe s := by
  obtain ⟨p, xs, bs, rfl, hS, pr, q⟩ := hq
  cases ry
  obtain ⟨its, r, pl, hz⟩ := I.list hS
  have hT : s.TypeIs (.ref p) "list" := by
    obtain ⟨⟨cls, dd, data, sl⟩, n', ho, hc, _⟩ := id pl
    exact ⟨_, ho, hc⟩
  have J0 : (fun s' => ∃ H', L2.Inv X pins σ H' s' ∧ Ext H H') s := ⟨H, I, Ext.rfl'⟩
  refine wpAny_contains_slot hT PySem.F.slot_list_contains ?_
  refine GQ.call_here PySem.F.slot_list_contains hT PySem.F.entry_list_contains (PySem.F.args_list_contains_2 _ _) ?_
  have lp := in_loop (P := X.prog) (w := X.w) (A := X.A) (R := wants (fun r s' => wpAny (model X.prog X.w) X.A (truthy r) (fun r s' => EP X pins σ Q (Value.bool (if neg = true then !r else r)) s') X.xe s') X.xe) (l := p) (N := xs.length) (x := u) (fun s' => ∃ H', L2.Inv X pins σ H' s' ∧ Ext H H') (fun i => bs.getD i false) ?hl bs.length 0 (by rw [paired_len pr]; rfl) (Nat.zero_le _) s J0 ?fin
  case hl =>
    rintro i s' ⟨H', I', e⟩
    obtain ⟨its', r', pl', _⟩ := I'.list (SqL.ext hS e)
    obtain ⟨o, n', ho, hc, hd, hs⟩ := pl'
    obtain ⟨cls, dd, data, sl⟩ := o
    dsimp only at hc hd hs
    refine ⟨its', n', dd, sl, by first | (rw [ho, hc, hs]) | (rw [ho]; subst hc; subst hs; rfl), r'.length.symm, fun hi => ?_⟩
    have hx : i < xs.length := by rw [r'.length]; exact hi
    obtain ⟨z, hz', rz⟩ := r'.get (List.getElem?_eq_getElem hx)
    rw [List.getElem?_eq_getElem hi] at hz'
    obtain ⟨b, hb, hd'⟩ := paired_get pr i hx
    have eb : bs.getD i false = b := by simp [List.getD_eq_getElem?_getD, hb]
    rw [Option.some.inj hz', eb]
    refine wpAny_mono (h X.A.in1 pins s' σ H' _ x _ u b ⟨hr.in1, rfl⟩ I' rz rx (hd' _ e)) (fun r2 s2 q2 => ?_) fun _ _ z => z
    obtain ⟨h2, H2, I2, e2⟩ := q2
    exact ⟨h2, H2, I2, e.trans e2⟩
  case fin =>
    rintro s' ⟨H', I', e⟩
    rw [any_range]
    exact wpAny_truthy_bool ⟨.bl _, H', I', rfl, q H' e⟩
  obtain ⟨hp, g, d, tk, os⟩ := s
  wp_walk
  exact ⟨plainId_quiet MeetsSeq.plain_contains_loop _, codeAny_builtin MeetsSeq.entry_contains_loop (by
    rw [Around.under_plainId MeetsSeq.plain_contains_loop _]
    exact lp)⟩
theorem op_inB {n : Nat} {D : Eqb} (h : EqB X n D) (hr : Room (n + 1) X.A) : OpR X (compareOp .In) (rInB X.K false D) := fun pins s σ H x y v u Q I rx ry hq => by
  show wpAny (model X.prog X.w) X.A (do return Value.bool (← contains u v)) (EP X pins σ Q) X.xe s
  exact wpAny_bind (wpAny_mono (in_body h hr I rx ry hq) (fun _ _ z => wpAny_pure z) fun _ _ z => z)
theorem op_notInB {n : Nat} {D : Eqb} (h : EqB X n D) (hr : Room (n + 1) X.A) : OpR X (compareOp .NotIn) (rInB X.K true D) := fun pins s σ H x y v u Q I rx ry hq => by
  show wpAny (model X.prog X.w) X.A (do return Value.bool (!(← contains u v))) (EP X pins σ Q) X.xe s
  exact wpAny_bind (wpAny_mono (in_body h hr I rx ry hq) (fun _ _ z => wpAny_pure z) fun _ _ z => z)
end
end Vf

set_option Elab.async false
set_option linter.all false
set_option maxRecDepth 100000
set_option maxHeartbeats 2000000
namespace Vf
open PySem PySem.Spec PyProof.Rows L2
/-! ### names of the text that stand for an int, a text, a tuple of texts -/
section
variable {X : Cx}
theorem c_gint {x : Str} {i : Int} {pos : Pos} (hm : ∃ t, X.mg x = some (.int i t)) (hg : Gl X x := by rfl) (hd : (x == ("__debug__" : Str)) = false := by decide) : PE X (.Name x pos) (tC (.int i)) := by
  obtain ⟨t, h⟩ := hm
  exact pe_glob hg h ⟨t, rfl⟩ hd
theorem c_gstr {x z : Str} {pos : Pos} (hm : ∃ t, X.mg x = some (.str z t)) (hg : Gl X x := by rfl) (hd : (x == ("__debug__" : Str)) = false := by decide) : PE X (.Name x pos) (tC (.str z)) := by
  obtain ⟨t, h⟩ := hm
  exact pe_glob hg h ⟨t, rfl⟩ hd
end
def strsB : List Value → List Str → Bool
  | [], [] => true
  | .str y _ :: us, z :: zs => decide (y = z) && strsB us zs
  | _, _ => false
theorem strsB_ok : ∀ {us : List Value} {zs : List Str}, strsB us zs = true → Vals (zs.map V.str) us
  | [], [], _ => .nil
  | .str y t :: us, z :: zs, h => by
    obtain ⟨h1, h2⟩ := He.ba h
    have e := of_decide_eq_true h1
    subst e
    exact .cons ⟨t, rfl⟩ (strsB_ok h2)
/-- at a a tuple of the texts zs -/
def kTup (K : PySem.W.Frag) (a : Addr) (zs : List Str) : Bool := match K.lookup a with
  | some ⟨.type n, _, .seq its _, _⟩ => decide (n = "tuple") && (decide (its.size ≤ sizeLine) && strsB its.toList zs)
  | _ => false
theorem kTup_ok {K : PySem.W.Frag} {a : Addr} {zs : List Str} (h : kTup K a zs = true) (H : Hp) : SqT K H a (zs.map V.str) := by
  unfold kTup at h
  split at h
  · rename_i n od its m sl e
    obtain ⟨h1, h2⟩ := He.ba h
    obtain ⟨h2, h3⟩ := He.ba h2
    have e1 := of_decide_eq_true h1
    subst e1
    exact .inr ⟨_, its, m, e, rfl, rfl, of_decide_eq_true h2, strsB_ok h3⟩
  · cases h
/-! ### C(.., k = v, ..) -/
structure OkK (P : Program) (w : World) (K : PySem.W.Frag) (mg : Str → Option Value) (base : Heap) (CX : CXT) (k : Nat) (p : Pl) (ps : List Str) (n : Nat) (ks : List Str) (gV : List V → List V → List V) (sp : Sp) : Prop where
  ex : ∃ fd g, FnOk P w K mg base CX k (He.fAd K p) fd ps sp ∧ KBn K fd ps n ks g gV
theorem c_mkK {X : Cx} {CX : CXT} {k j n : Nat} {ps ks : List Str} {sp : Sp} {x : Str} {p pos : Pos} {e : Expr} {es : List Expr} {kws : List Keyword} {t tk : TA} {gV : List V → List V → List V} {E : XK} {C : Addr} (M : Mk X.K C (He.fAd X.K (x, some "__init__"))) (O : OkK X.prog X.w X.K X.mg X.base CX k (x, some "__init__") ps (n + 1) ks gV sp) (hr : Room j X.A) (hj : k + 1 ≤ j) (hm : X.mg x = some (.ref C)) (hx : Passes CX X E) (ha : PA X (e :: es) t) (hkw : PK X kws tk) (hg : Gl X x := by rfl)
    (hall : (backToKw pos (keywordEach kws X.env)).all (·.1.isSome) = true := by rfl) (hks : (backToKw pos (keywordEach kws X.env)).filterMap (·.1) = ks := by rfl) (hdb : (x == ("__debug__" : Str)) = false := by decide)
    (he : starEach (e :: es) X.env = (false, eval e X.env) :: starEach es X.env := by rfl) (hpl : ((backTo pos (starEach (e :: es) X.env)).any (·.1) || (backToKw pos (keywordEach kws X.env)).any (·.1.isNone)) = false := by rfl) :
    PE X (.Call (.Name x p) (e :: es) kws pos) (tMakeK C n ks.length sp gV E t tk) := by
  obtain ⟨fd, g, F, b⟩ := O.ex
  exact pe_makeK M F (hr.mono hj) hg hm b hx ha hkw hall hks hdb he hpl
/-! ### texts -/
/-- one sign in a text -/
theorem sign_in (x : Str) (c : Nat) : (!(Builtin.Str.occurrences x ⟨#[c]⟩ 0 x.length 1).isEmpty) = decide (c ∈ x.cps.toList) := PySem.StrLaws.found_one x c
/-- a value that is no text -/
inductive OddS (H : Hp) : V → Prop where
  | bl (b : Bool) : OddS H (.bl b)
  | non : OddS H .non
  | int (i : Int) : OddS H (.int i)
  | tup {a : Addr} {xs : List V} (h : H a = some (.tup xs)) : OddS H (.ref a)
  | lst {a : Addr} {xs : List V} (h : H a = some (.lst xs)) : OddS H (.ref a)
  | dic {a : Addr} {kvs : List (Key × V)} (h : H a = some (.dK kvs)) : OddS H (.ref a)
theorem oddS_ty (K : PySem.W.Frag) {H : Hp} {x : V} (o : OddS H x) : ∃ n : String, TyX K H x (.type n) ∧ kitB n "str" = some false := by
  cases o with
  | bl b => exact ⟨"bool", .base (.bl b), by decide +kernel⟩
  | non => exact ⟨"NoneType", .base .non, by decide +kernel⟩
  | int i => exact ⟨"int", .base (.int i), by decide +kernel⟩
  | tup h => exact ⟨"tuple", .base (.tup h), by decide +kernel⟩
  | lst h => exact ⟨"list", .base (.lst h), by decide +kernel⟩
  | dic h => exact ⟨"dict", .base (.dK h), by decide +kernel⟩
/-- a value that is no bool -/
inductive OddB (H : Hp) : V → Prop where
  | str (z : Str) : OddB H (.str z)
  | non : OddB H .non
  | int (i : Int) : OddB H (.int i)
  | tup {a : Addr} {xs : List V} (h : H a = some (.tup xs)) : OddB H (.ref a)
  | lst {a : Addr} {xs : List V} (h : H a = some (.lst xs)) : OddB H (.ref a)
  | dic {a : Addr} {kvs : List (Key × V)} (h : H a = some (.dK kvs)) : OddB H (.ref a)
theorem oddB_ty (K : PySem.W.Frag) {H : Hp} {x : V} (o : OddB H x) : ∃ n : String, TyX K H x (.type n) ∧ kitB n "bool" = some false := by
  cases o with
  | str z => exact ⟨"str", .base (.str z), by decide +kernel⟩
  | non => exact ⟨"NoneType", .base .non, by decide +kernel⟩
  | int i => exact ⟨"int", .base (.int i), by decide +kernel⟩
  | tup h => exact ⟨"tuple", .base (.tup h), by decide +kernel⟩
  | lst h => exact ⟨"list", .base (.lst h), by decide +kernel⟩
  | dic h => exact ⟨"dict", .base (.dK h), by decide +kernel⟩
end Vf

set_option Elab.async false
set_option linter.all false
set_option maxRecDepth 100000
set_option maxHeartbeats 2000000
namespace Vf
open PySem PySem.Spec PyProof.Rows L2
/-- the callee's errors are the def's own -/
theorem passE {X : Cx} {E : XK} (hs : X.stack = X.env :: X.outer) (hf : X.env.frame = some X.env.locals) (hex : X.ex = []) {E₁ : Value → Shared → Prop}
    (hx : X.xe = fun e s' => wpAny (model X.prog X.w) X.A (leaving X.env e) (fun _ s'' => L2.CX X.prog X.w X.outer X.H_0 X.s_0 E e s'') E₁ s') : Passes (L2.CX X.prog X.w) X E :=
  passes_call (takes_of hs hf hex hx) fun _ _ _ _ h => h
/-! ### o.m(k = v, ..) -/
def tMethK (C : Addr) (m : Str) (n : Nat) (sp : Sp) (gV : List V → List V → List V) (E : XK) (ta : TE) (tk : TA) : TE := fun σ H Q => ta σ H fun x H1 => ∃ a dx fs, x = .ref a ∧ H1 a = some (.ins C dx fs) ∧ fs.lookup m = none ∧
  tk σ H1 fun zs H2 => zs.length = n ∧ sp (gV [.ref a] zs) H2 Q E
theorem c_meK {X : Cx} {CX : CXT} {k j : Nat} {ps ks : List Str} {sp : Sp} {m cn : Str} {o : Expr} {pos apos : Pos} {kws : List Keyword} {ta : TE} {tk : TA} {gV : List V → List V → List V} {E : XK} {C : Addr} (hC : C = He.ga X.K cn) (hb : PE X o ta) (c : Cls X.K C) (hm : Meth X.K C m (He.fAd X.K (cn, some m)))
    (O : OkK X.prog X.w X.K X.mg X.base CX k (cn, some m) ps 1 ks gV sp) (hr : Room j X.A) (hj : k ≤ j) (hx : Passes CX X E) (hkw : PK X kws tk) {pl : Sem Bool}
    (hall : (backToKw pos (keywordEach kws X.env)).all (·.1.isSome) = true := by rfl) (hks : (backToKw pos (keywordEach kws X.env)).filterMap (·.1) = ks := by rfl)
    (hpl : ((backTo pos (starEach [] X.env)).any (·.1) || (backToKw pos (keywordEach kws X.env)).any (·.1.isNone)) = false := by rfl)
    (ht : eval (.Call (.Attribute o m apos) [] kws pos) X.env = (do
      let ov ← eval o X.env
      standAt apos.atName
      let (f, first) ← holding [ov] (getMethod ov m pl)
      callWith pos f first (backTo pos (starEach [] X.env)) (backToKw pos (keywordEach kws X.env))) := by rfl) :
    PE X (.Call (.Attribute o m apos) [] kws pos) (tMethK C m ks.length sp gV E ta tk) := by
  obtain ⟨fd, g, F, b⟩ := O.ex
  refine ⟨fun pins s σ H Q I h => ?_⟩
  refine PySem.W.methodCall_KW (pl := pl) (thn (hb.run pins s σ H _ I h) fun u s1 ⟨x, H1, I1, rx, a, dx, fs, ex, ea, l, q⟩ => ?_) ht
  subst ex
  obtain rfl : u = Value.ref a := rx
  refine getmeth_ok I1 ea c hm l ?_
  refine PySem.W.callWith_KW0 (first := [.ref a]) (h₀ := X.base) I.ok.mod.kin hm.kp hall ?_ hpl
  refine thn (hkw.run pos pins s1 σ H1 _ I1 q) fun ws s2 ⟨zs, H2, I2, rz, l2, q2⟩ => ⟨I2.kIn, ?_⟩
  rw [hks]
  exact run_fnN (us := [.ref a]) (vs := [.ref a]) F (hr.mono hj) b hx I2 (.cons rfl .nil) rz rfl l2 q2
/-! ### o != o of a class with an own == alone -/
section
open PySem.W PySem.Calls
variable {M : Model} {prog : Program} {w : World} {A : Around} {E : Value → Shared → Prop} {s : Shared} {K : Frag} {x y C f : Addr} {ox oy : Obj} {od od' : Option Obj}
theorem ifBound_objNe {args : List Value} {Q : Option Value → Shared → Prop} (X : K.In s.heap) (I : InstAt s.heap x ox C od) (hs : findIn K (.ref C) "__ne__" = some (some (.builtin "object.__ne__")))
    (h : wpAny M A (call (.builtin "object.__ne__") (.ref x :: args)) (fun v => Q (some v)) E s) : wpAny M A (callSpecialIfBound? (.ref x) "__ne__" args) Q E s := by
  simp only [callSpecialIfBound?, bindSpecialIfBound?]
  refine wpAny_holding (wpAny_bind (wpAny_bind (wpAny_bind (I.type.here ((looks_findIn X hs).here ?_)))))
  refine wpAny_bind (wpAny_askSetting (wpAny_ite ?_))
  have fin : wpAny M A (call (.builtin "object.__ne__") ([.ref x] ++ args) >>= fun v => pure (some v)) Q E s := wpAny_bind (wpAny_mono h (fun v s' h' => wpAny_pure h') fun _ _ h' => h')
  split
  · exact wpAny_bind (wpAny_of_eq (F.cmp_object.ne.bind _) (wpAny_pure (by exact fin)))
  · exact wpAny_tryCatch (wpAny_bind (wpAny_of_eq (F.cmp_object.ne.bind _) (wpAny_pure (by exact fin))))
def NeBack (Q : Value → Shared → Prop) (v : Value) (s' : Shared) : Prop := ∃ t, v = .bool t ∧ Q (.bool (!t)) s'
theorem entry_ne {Q : Fin → Shared → Prop} (hu : A.units < cLine) (X : K.In s.heap) (I : InstAt s.heap x ox C od) (hs : findIn K (.ref C) "__eq__" = some (some (.ref f))) (hf : isFn K (.ref f) = true)
    (h : wpAny (model prog w) A (call (.ref f) [.ref x, .ref y]) (NeBack fun v => Q (.done (.ret v))) E s) : wpAny (model prog w) A (Builtin.«object.__ne__» ⟨[.ref x, .ref y], []⟩) Q E s := by
  have e : wpAny (model prog w) A (callSpecialIfBound? (.ref x) "__eq__" [.ref y]) (fun r s' => ∃ t, r = some (.bool t) ∧ Q (.done (.ret (.bool (!t)))) s') E s :=
    ifBound_K X I hs hf (wpAny_mono h (fun v s' hv => by obtain ⟨t, rfl, q⟩ := hv; exact ⟨t, rfl, q⟩) fun _ _ e => e)
  unfold Builtin.«object.__ne__»
  repeat (first | with_reducible refine wpAny_cRoomFor hu ?_ | with_reducible refine wpAny_mono e ?_ (fun _ _ e => e) | wp_step)
  rintro r s' ⟨t, rfl, q⟩
  refine wpAny_bind (wpAny_truthy_bool ?_)
  exact wpAny_pure q
theorem call_ne {Q : Value → Shared → Prop} (hu : A.in1.units < cLine) (X : K.In s.heap) (I : InstAt s.heap x ox C od) (hm : mroIn K C (.type "object") = some true) (hs : findIn K (.ref C) "__eq__" = some (some (.ref f))) (hf : isFn K (.ref f) = true)
    (h : wpAny (model prog w) A.in1 (call (.ref f) [.ref x, .ref y]) (NeBack Q) E s) :
    wpAny (model prog w) A (call (.builtin "object.__ne__") [.ref x, .ref y]) Q E s :=
  wpAny_call (codeAny_call_builtin F.cmp_object.ne.plain F.cmpEntry_ne (check_slot F.cmpKind_ne F.cmpSplit_ne (I.type.andThen (looks_mroIn X hm)) (F.cmpArgs_ne _ _) (entry_ne hu X I hs hf h)))
theorem rc_ne {Q : Value → Shared → Prop} (hu : A.units < cLine) (hu1 : A.in1.units < cLine) (X : K.In s.heap) (I : InstAt s.heap x ox C od) (I' : InstAt s.heap y oy C od') (hm : mroIn K C (.type "object") = some true)
    (hn : findIn K (.ref C) "__ne__" = some (some (.builtin "object.__ne__"))) (hs : findIn K (.ref C) "__eq__" = some (some (.ref f))) (hf : isFn K (.ref f) = true)
    (h : wpAny (model prog w) A.in1 (call (.ref f) [.ref x, .ref y]) (NeBack Q) E s) : wpAny (model prog w) A (richCompare .NotEq (.ref x) (.ref y)) Q E s := by
  have one : wpAny (model prog w) A (tryCompare (.ref x) "__ne__" (.ref y)) (fun r s' => ∃ v, r = some v ∧ Q v s') E s := by
    unfold tryCompare
    refine wpAny_bind (ifBound_objNe X I hn (call_ne hu1 X I hm hs hf (wpAny_mono h (fun v s' hv => ?_) fun _ _ e => e)))
    obtain ⟨t, rfl, q⟩ := hv
    exact ⟨t, rfl, wpAny_pure ⟨_, rfl, q⟩⟩
  unfold richCompare
  simp only [oneThing_ref]
  refine wpAny_holding (wpAny_bind (wpAny_cRoomFor hu ?_))
  refine wpAny_bind (I.type.here (wpAny_bind (I'.type.here ?_)))
  split
  · rename_i q
    exact absurd q (by simp)
  · refine wpAny_bind (wpAny_pure ?_)
    simp only [Bool.false_eq_true, if_false]
    refine wpAny_bind (wpAny_mono one (fun r s' z => ?_) fun _ _ e => e)
    obtain ⟨v, rfl, hq⟩ := z
    exact wpAny_pure hq
end
def rNeO (C : Addr) (sp : Sp) : R2 := fun x y H Q => ∃ a b dx dy fs gs, x = .ref a ∧ y = .ref b ∧ H a = some (.ins C dx fs) ∧ H b = some (.ins C dy gs) ∧ sp [.ref a, .ref b] H (fun v H' => ∃ t, v = .bl t ∧ Q (.bl (!t)) H') fun _ _ _ => False
theorem cmp_neO {X : Cx} {k j : Nat} {C : Addr} {cn : Str} {ps : List Str} {sp : Sp} (hC : C = He.ga X.K cn) (M : Meth X.K C "__eq__" (He.fAd X.K (cn, some "__eq__"))) (hn : PySem.W.findIn X.K (.ref C) "__ne__" = some (some (.builtin "object.__ne__"))) (hm : PySem.W.mroIn X.K C (.type "object") = some true)
    (O : OkD X.prog X.w X.K X.mg X.base CX0 k (cn, some "__eq__") ps [] sp) (hr : Room j X.A) (hj : k + 1 ≤ j) : OpR X (compareOp .NotEq) (rNeO C sp) := by
  obtain ⟨fd, ds, F, b, v⟩ := O.ex
  cases v
  intro pins s σ H x y v u Q I rx ry h
  obtain ⟨a, b', dx, dy, fs, gs, rfl, rfl, ha, hb, hsp⟩ := h
  cases rx
  cases ry
  obtain ⟨mA, J, _⟩ := ins_get I.hok ha
  obtain ⟨mB, J', _⟩ := ins_get I.hok hb
  obtain ⟨od, J, _⟩ := J.look
  obtain ⟨od', J', _⟩ := J'.look
  have hr1 : Room k X.A.in1 := (hr.mono hj).in1
  refine rc_ne hr.units0 hr1.units0 I.kIn J J' hm hn M.at_ M.fn ?_
  have hl := F.len _ _ _ _ hsp
  have hbb := b s [.ref a, .ref b'] I.kIn (by simpa using hl)
  simp only [List.append_nil] at hbb
  refine wpAny_call (codeAny_mono (F.run X.A.in1 X.stack s H ⟨[.ref a, .ref b'], []⟩ [.ref a, .ref b'] [.ref a, .ref b'] _ _ hr1 I.env0.in1 hbb (.cons rfl (.cons rfl .nil)) hsp) fun r s' hq => ?_)
  cases r with
  | error e => exact hq.elim
  | ok fl =>
    cases fl with
    | ret w =>
      obtain ⟨z, H', I', rz, t, ez, q⟩ := I.after hq
      subst ez
      cases rz
      exact ⟨t, rfl, .bl (!t), H', I', rfl, q⟩
    | next => exact False.elim hq
    | brk => exact False.elim hq
    | cont => exact False.elim hq
end Vf

set_option Elab.async false
set_option linter.all false
set_option maxRecDepth 100000
set_option maxHeartbeats 2000000
/-! ### enumerate over a tuple -/
namespace PySem
open Sem (wp)
open AutoSeq1 (wpAny_loadPart')
theorem vf_enum_newT (l : Addr) (items : Array Value) (n : Nat) (dct : Option Addr) (sl : Array (Option Value)) :
    Meets (Builtin.«enumerate.__new__» ⟨[.type "enumerate", .ref l], []⟩) (fun _ R s => s.heap.get? l = some { cls := .type "tuple", dict := dct, data := .seq items n, slots := sl } ∧
      R (.ok (.ret (.ref (s.heap.push { cls := .type "tuple_iterator", data := .fields #[.ref l, .int 0 0] }).objs.size)))
        { s with heap := (s.heap.push { cls := .type "tuple_iterator", data := .fields #[.ref l, .int 0 0] }).push { cls := .type "enumerate", data := .fields #[.none, .bool false, .ref s.heap.objs.size, rawInt 0, .none, .none] } }) :=
  .of_wp fun prog w A R s h => by
    obtain ⟨hp, g, d, tk, os⟩ := s; obtain ⟨hl, h⟩ := h
    have hsub := sub_enumerate
    have hL : Heap.IsTuple (Shared.heap ⟨hp, g, d, tk, os⟩) l items := ⟨_, hl, rfl, n, rfl⟩
    wp_walk using wpAny_loadPart' hl
    refine wpAny_stack_any fun st => wpAny_pure ?_
    split
    · rename_i c _ _ _ _ _
      cases (c == Value.type "enumerate")
      · wp_walk using wpAny_loadPart' hl, wpAny_pyIter_tuple hL
        exact ⟨_, rfl, h⟩
      · wp_walk using wpAny_loadPart' hl, wpAny_pyIter_tuple hL
        exact ⟨_, rfl, h⟩
    · wp_walk using wpAny_loadPart' hl, wpAny_pyIter_tuple hL
      exact ⟨_, rfl, h⟩
section
variable {prog : Program} {w : World} {A : Around} {E : Value → Shared → Prop} {s : Shared}
theorem vf_call_enumT {l : Addr} {items : Array Value} {Q : Value → Shared → Prop} (hL : s.heap.IsTuple l items)
    (h : ∀ h', IsEnum h' (s.heap.objs.size + 1) s.heap.objs.size 0 .none → h'.IsTupleIter s.heap.objs.size l 0 → h'.objs.size = s.heap.objs.size + 2 →
      (∀ b o, s.heap.get? b = some o → h'.get? b = some o) → Q (.ref (s.heap.objs.size + 1)) { s with heap := h' }) :
    wpAny (model prog w) A (call (.type "enumerate") [.ref l]) Q E s := by
  obtain ⟨⟨c, dct, dt, sl⟩, hl, hc, n, hd⟩ := hL
  replace hc : c = .type "tuple" := hc
  replace hd : dt = .seq items n := hd
  subst hc hd
  refine callType_new F.called_enumerate (by decide) (F.typeCall_enumerate_1 _) (F.newCall_enumerate_1 _) (fun obj => F.args_object_init_2 obj _) F.entry_enumerate_new
    (vf_enum_newT l items n dct sl) ⟨hl, ?_⟩
  have hz : (s.heap.push { cls := .type "tuple_iterator", data := .fields #[.ref l, .int 0 0] }).objs.size = s.heap.objs.size + 1 := Heap.size_push ..
  show _ ∧ _
  rw [hz]
  have he : IsEnum ((s.heap.push { cls := .type "tuple_iterator", data := .fields #[.ref l, .int 0 0] }).push
      { cls := .type "enumerate", data := .fields #[.none, .bool false, .ref s.heap.objs.size, rawInt 0, .none, .none] }) (s.heap.objs.size + 1) s.heap.objs.size 0 .none := by
    have := Heap.get?_push_size (s.heap.push { cls := .type "tuple_iterator", data := .fields #[.ref l, .int 0 0] })
      (o := { cls := .type "enumerate", data := .fields #[.none, .bool false, .ref s.heap.objs.size, rawInt 0, .none, .none] }) rfl
    rw [hz] at this; exact this
  refine ⟨⟨_, he, rfl⟩, h _ he ⟨_, Heap.get?_push_of_some _ (Heap.get?_push_size _ rfl), rfl, rfl⟩ (by rw [Heap.size_push, hz]) fun b o x => Heap.get?_push_of_some _ (Heap.get?_push_of_some _ x)⟩
end
end PySem
namespace Vf
open PySem PySem.Spec PyProof.Rows L2
/-- the tuple at a, each item in a new pair -/
def IteT (K : PySem.W.Frag) (a : Addr) : It :=
  ⟨fun i H => ∃ (xs : List V) (x : V), SqT K H a xs ∧ xs[i]? = some x, fun i H v H' => ∃ T x, v = .ref T ∧ H T = none ∧ H' = upd H T (.tup [.int (i : Nat), x]) ∧ ∀ xs, SqT K H a xs → xs[i]? = some x, fun i H => ∃ xs : List V, SqT K H a xs ∧ xs.length = i⟩
theorem turn_enumT {P : Program} {w : World} {K : PySem.W.Frag} {elts : List Expr} {kk : Nat} {tpos : Pos} (a e it : Addr) :
    Turn P w K (.Tuple elts kk tpos) (IteT K a) [e, it] e (fun i h => (∃ old, IsEnum h e it ((i : Nat) : Int) old) ∧ h.IsTupleIter it a i ∧ e ≠ it) where
  mem := by simp
  obj := fun i h st b hb => by
    obtain ⟨⟨old, he⟩, ⟨o, ho, hc, hd⟩, _⟩ := st
    have e' : b = e ∨ b = it := by simpa using hb
    rcases e' with z | z
    · rw [z]; exact ⟨_, he, fun v q => nomatch q⟩
    · rw [z]; exact ⟨o, ho, fun v q => by rw [hd] at q; cases q⟩
  keep := fun i h h' st k => let ⟨⟨old, he⟩, hi, hne⟩ := st; ⟨⟨old, k e (by simp) _ he⟩, hi.at fun o q => k it (by simp) o q, hne⟩
  item := by
    intro X hP hw hK hc i pins s σ H E I hf st hg
    subst hP hw hK
    obtain ⟨⟨old, he⟩, hit, hne⟩ := st
    obtain ⟨xs, x, hq, hx⟩ := hg
    obtain ⟨its, rv, p, hz⟩ := I.tuple hq
    obtain ⟨u, hu, ru⟩ := rv.get hx
    have pT : s.heap.IsTuple a its.toArray := p
    have hel : e < s.heap.objs.size := Heap.lt_size he
    have hil : it < s.heap.objs.size := by obtain ⟨_, q, _⟩ := hit; exact Heap.lt_size q
    have nai : a ≠ it := fun z => by
      subst z
      obtain ⟨o1, h1, c1, _⟩ := pT
      obtain ⟨o2, h2, c2, _⟩ := hit
      rw [h1] at h2
      cases h2
      rw [c1] at c2
      injection c2 with c2
      exact absurd c2 (by decide)
    have nae : a ≠ e := fun z => by
      subst z
      obtain ⟨o1, h1, c1, _⟩ := pT
      rw [show s.heap.get? a = _ from he] at h1
      cases h1
      injection c1 with c1
      exact absurd c1 (by decide)
    have hli : i < its.toArray.size := by
      have := (List.getElem?_eq_some_iff.mp hu).1
      simpa using this
    have hh : X.A.in1.handled = none := I.ok.hd hc
    refine wpAny_pyNext_enum_itemD (Draws.tuple hh it a nai its.toArray) he ⟨hit, pT⟩ hli hne (by simp [hne, nae.symm]) fun v h' tk hv ho hit' hT hsz hk => ?_
    have ev : v = u := by
      have h1 : its[i]? = some v := by simpa using hv
      rw [hu] at h1
      exact (Option.some.inj h1).symm
    subst ev
    refine ⟨_, rfl, wpAny_letOwnedTupleGo_enum (s := { s with heap := h', toks := tk + 1 }) ho fun h'' he' sb => ?_⟩
    have hT2 : h''.get? s.heap.objs.size = some { cls := .type "tuple", data := .seq #[.int i tk, v] } := (sb.2 _ (Nat.ne_of_gt hel)).trans hT
    have new : ObjOk X.prog X.w (upd H s.heap.objs.size (.tup [.int (i : Nat), x])) h'' s.heap.objs.size (.tup [.int (i : Nat), x]) :=
      ⟨by show 2 ≤ sizeLine; decide, [.int i tk, v], .cons ⟨_, rfl⟩ (.cons ru .nil), ⟨_, hT2, rfl, _, rfl⟩⟩
    have I1 : Inv X pins σ (upd H s.heap.objs.size (.tup [.int (i : Nat), x])) { s with heap := h'', toks := tk + 1 } :=
      I.turnedNew (ch := [e, it]) (fun b ob hb q => (sb.2 b (fun z => hb (by simp [z]))).trans (hk b ob (fun z => hb (by simp [z])) (fun z => hb (by simp [z])) q)) hf (Nat.le_refl _) new
    refine ⟨.ref s.heap.objs.size, _, I1, rfl, ⟨_, x, rfl, I.hok.fresh (Nat.le_refl _), rfl, fun ys hy => by rw [I.tuple_inj hy hq]; exact hx⟩, ⟨⟨v, ?_⟩, hit'.1.at fun o q => (sb.2 it (Ne.symm hne)).trans q, hne⟩, fun b hb => ?_⟩
    · have e1 : ((i + 1 : Nat) : Int) = (i : Int) + 1 := by omega
      rw [e1]; exact he'
    · have hb' : b < s.heap.objs.size := by
        have e' : b = e ∨ b = it := by simpa using hb
        rcases e' with z | z
        · rw [z]; exact hel
        · rw [z]; exact hil
      rw [upd_ne (Nat.ne_of_lt hb')]
      exact (hf b hb).1
  done := by
    intro X hP hw hK hc i pins s σ H E I hf st hg
    subst hP hw hK
    obtain ⟨⟨old, he⟩, hit, hne⟩ := st
    obtain ⟨xs, hq, hx⟩ := hg
    obtain ⟨its, rv, p, hz⟩ := I.tuple hq
    have pT : s.heap.IsTuple a its.toArray := p
    obtain ⟨f0, f1, f2, f3, f4, f5⟩ := hf it (by simp)
    have hl := rv.length
    have nai : a ≠ it := fun z => by
      subst z
      obtain ⟨o1, h1, c1, _⟩ := pT
      obtain ⟨o2, h2, c2, _⟩ := hit
      rw [h1] at h2
      cases h2
      rw [c1] at c2
      injection c2 with c2
      exact absurd c2 (by decide)
    have hh : X.A.in1.handled = none := I.ok.hd hc
    have hin : its.toArray.size = i := by simp; omega
    subst hin
    exact wpAny_pyNext_enum_endD (Draws.tuple hh it a nai its.toArray) he ⟨hit, pT⟩ fun h' eb => ⟨rfl, I.turned (t' := s.toks) (fun b o hb q => eb b o hb q) f0 f1 f3 f4 f5⟩
  self := fun A i s Q E st h => let ⟨⟨_, he⟩, _⟩ := st; wpAny_pyIter_enum he h
def iEnumT (K : PySem.W.Frag) (ta : TA) : TI := fun σ H R => ta σ H fun vs H1 => ∃ a xs, vs = [.ref a] ∧ SqT K H1 a xs ∧ R (IteT K a) H1
theorem pi_enumT {X : Cx} {e : Expr} {ta : TA} {p pos tpos : Pos} {elts : List Expr} {kk : Nat} (hg : Gl X "enumerate") (hm : X.mg "enumerate" = none) (ha : PA X [e] ta) (hs : starEach [e] X.env = [(false, eval e X.env)] := by rfl) :
    PI X (.Tuple elts kk tpos) (.Call (.Name "enumerate" p) [e] [] pos) (iEnumT X.K ta) := by
  refine ⟨fun pins s σ H R I h => ?_⟩
  refine Call_ (ld_blt I hg hm boot_enumerate (PyProof.Rows.callWith_type1 (thn (ha.run pos pins s σ H _ I h) fun us s1 ⟨vs, H1, I1, r1, q1⟩ => ?_) hs rfl))
  obtain ⟨a, xs, ex, hq, q⟩ := q1
  subst ex
  cases r1 with
  | cons r rr =>
    cases rr
    cases r
    obtain ⟨its, rv, p', hz⟩ := I1.tuple hq
    refine vf_call_enumT (show s1.heap.IsTuple a its.toArray from p') fun h' he hit hsz hk => wpAny_pyIter_enum he ?_
    have I2 : Inv X pins σ H1 { s1 with heap := h' } := I1.kept (t' := s1.toks) hk
    refine ⟨s1.heap.objs.size + 1, [s1.heap.objs.size + 1, s1.heap.objs.size], _, _, H1, rfl, I2, turn_enumT a (s1.heap.objs.size + 1) s1.heap.objs.size, ⟨⟨.none, he⟩, hit, Nat.succ_ne_self _⟩, fun b hb => ?_, q⟩
    have e' : b = s1.heap.objs.size + 1 ∨ b = s1.heap.objs.size := by simpa using hb
    have hle : s1.heap.objs.size ≤ b := by
      rcases e' with z | z
      · rw [z]; exact Nat.le_add_right _ _
      · rw [z]; exact Nat.le_refl _
    exact I1.fpOk hle (I1.hok.fresh hle)
theorem walk_enumT {K : PySem.W.Frag} {a : Addr} {xs : List V} : Walk (IteT K a) xs.length (fun H => SqT K H a xs) (YPair (fun i => some (.int (i : Nat))) (fun i => xs[i]?)) := by
  refine ⟨fun i _ hi q => ⟨xs, xs[i], q, by simp [hi]⟩, fun _ q => ⟨xs, q, rfl⟩, fun i H v H' _ q y => ?_⟩
  obtain ⟨T, x, h1, h2, h3, h4⟩ := y
  exact ⟨T, .int (i : Nat), x, h1, h2, h3, rfl, h4 xs q⟩
theorem ix_listK {X : Cx} {K : PySem.W.Frag} (h : X.K = K) : IxR X (rIxL K) := h ▸ ix_list
theorem ix_tupK {X : Cx} {K : PySem.W.Frag} (h : X.K = K) : IxR X (rIxT K) := h ▸ ix_tup
/-- a dict comprehension over any walk -/
theorem dc_it {J : It} {n : Nat} {G : Hp → Prop} {Y : Nat → Hp → V → Hp → Prop} (w : Walk J n G Y) {g : TG} {tt : TT} {tk tv : TE} {vs : List Nat} {σ : L2.St} {H1 : Hp} {D : Addr} {Qd : Hp → Prop} (Pv : Nat → Hp → Prop) (h0 : Pv 0 (upd H1 D (.dK []))) (hG : ∀ i H, i ≤ n → Pv i H → G H)
    (hs : ∀ i x H H', i < n → Pv i H → Y i H x H' → g x (wipe σ vs) H' fun σ2 H2 => wipe σ2 vs = wipe σ vs ∧ tt σ2 H2 fun b H3 =>
      if b = true then tk σ2 H3 fun y H4 => tv σ2 H4 fun z H5 => ∃ kvs k, y = kV k ∧ H5 D = some (.dK kvs) ∧ kvs.length < sizeLine ∧ Pv (i + 1) (upd H5 D (.dK (putK kvs k z))) else Pv (i + 1) H3) (hd : ∀ H, Pv n H → Qd H) :
    ∃ W : Nat → Nat → Hp → Prop, (∃ m, W 0 m (upd H1 D (.dK []))) ∧ ∀ i m H, W i m H →
      (J.stop i H ∧ Qd H) ∨ (J.go i H ∧ ∃ Nx : Hp → Prop, (∀ H', Nx H' → ∃ m', m' < m ∧ W (i + 1) m' H') ∧ ∀ x H', J.yld i H x H' → g x (wipe σ vs) H' fun σ2 H2 => wipe σ2 vs = wipe σ vs ∧ tt σ2 H2 fun b H3 =>
        if b = true then tk σ2 H3 fun y H4 => tv σ2 H4 fun z H5 => ∃ kvs k, y = kV k ∧ H5 D = some (.dK kvs) ∧ kvs.length < sizeLine ∧ Nx (upd H5 D (.dK (putK kvs k z))) else Nx H3) := by
  refine ⟨fun i m H => m = n - i ∧ i ≤ n ∧ Pv i H, ⟨n, by simp, Nat.zero_le _, h0⟩, ?_⟩
  rintro i m H ⟨rfl, hi, p⟩
  have q := hG i H hi p
  by_cases hlt : i < n
  · exact .inr ⟨w.goes i H hlt q, Pv (i + 1), fun H' p' => ⟨n - (i + 1), by omega, rfl, hlt, p'⟩, fun x H' y => hs i x H H' hlt p (w.yields i H x H' hlt q y)⟩
  · have e : i = n := by omega
    subst e
    exact .inl ⟨w.stops H q, hd H p⟩
end Vf

set_option Elab.async false
set_option linter.all false
set_option maxRecDepth 100000
set_option maxHeartbeats 2000000
namespace Vf
open PySem PySem.Spec PyProof.Rows L2
/-! ### x in o, o[x], len(o) of a class of the text's own -/
section
variable {X : Cx} {k j : Nat} {C : Addr} {cn : Str} {ps : List Str} {sp : Sp}
def rInO (neg : Bool) (C : Addr) (sp : Sp) : R2 := fun x y H Q => ∃ b dx fs, y = .ref b ∧ H b = some (.ins C dx fs) ∧ sp [.ref b, x] H (fun v H' => ∃ t, v = .bl t ∧ Q (.bl (if neg then !t else t)) H') fun _ _ _ => False
theorem in_run (M : Meth X.K C "__contains__" (He.fAd X.K (cn, some "__contains__"))) (O : OkD X.prog X.w X.K X.mg X.base CX0 k (cn, some "__contains__") ps [] sp) (hr : Room j X.A) (hj : k ≤ j) {pins : List (Addr × Obj)} {σ : L2.St} {H : Hp} {s : Shared} {x : V} {u : Value} {b : Addr} {Qv : VK}
    (I : L2.Inv X pins σ H s) (rx : RelV x u) (hsp : sp [.ref b, x] H (fun v H' => ∃ t, v = .bl t ∧ Qv (.bl t) H') fun _ _ _ => False) {Q : Value → Shared → Prop} (hq : ∀ t s' H', L2.Inv X pins σ H' s' → Qv (.bl t) H' → wpAny (model X.prog X.w) X.A (truthy (.bool t)) (fun b => Q (.bool b)) X.xe s') :
    wpAny (model X.prog X.w) X.A (call (.ref (He.fAd X.K (cn, some "__contains__"))) [.ref b, u]) (fun r s' => wpAny (model X.prog X.w) X.A (truthy r) (fun b => Q (.bool b)) X.xe s') X.xe s := by
  obtain ⟨fd, ds, F, bi, v⟩ := O.ex
  cases v
  have hl := F.len _ _ _ _ hsp
  have hb := bi s [.ref b, u] I.kIn (by simpa using hl)
  simp only [List.append_nil] at hb
  refine wpAny_call (codeAny_mono (F.run X.A X.stack s H ⟨[.ref b, u], []⟩ [.ref b, u] [.ref b, x] _ _ (hr.mono hj) I.env0 hb (.cons rfl (.cons rx .nil)) hsp) fun r s' hq' => ?_)
  cases r with
  | error e => exact hq'.elim
  | ok fl =>
    cases fl with
    | ret w =>
      obtain ⟨z, H', I', rz, t, ez, q⟩ := I.after hq'
      subst ez
      cases rz
      exact hq t s' H' I' q
    | next => exact False.elim hq'
    | brk => exact False.elim hq'
    | cont => exact False.elim hq'
theorem op_inO (M : Meth X.K C "__contains__" (He.fAd X.K (cn, some "__contains__"))) (O : OkD X.prog X.w X.K X.mg X.base CX0 k (cn, some "__contains__") ps [] sp) (hr : Room j X.A) (hj : k ≤ j) : OpR X (compareOp .In) (rInO false C sp) := by
  intro pins s σ H x y v u Q I rx ry h
  obtain ⟨b, dx, fs, rfl, hb, hsp⟩ := h
  cases ry
  obtain ⟨mA, J, _⟩ := ins_get I.hok hb
  obtain ⟨od, J, _⟩ := J.look
  obtain ⟨mm, hF⟩ := I.fr
  exact PySem.W.in_K hF I.ok.mod.kin J M.at_ M.fn (in_run (cn := cn) M O hr hj I rx hsp fun t s' H' I' q => wpAny_truthy_bool ⟨.bl t, H', I', rfl, q⟩)
theorem op_notInO (M : Meth X.K C "__contains__" (He.fAd X.K (cn, some "__contains__"))) (O : OkD X.prog X.w X.K X.mg X.base CX0 k (cn, some "__contains__") ps [] sp) (hr : Room j X.A) (hj : k ≤ j) : OpR X (compareOp .NotIn) (rInO true C sp) := by
  obtain ⟨fd, ds, F, bi, vd⟩ := O.ex
  cases vd
  intro pins s σ H x y v u Q I rx ry h
  obtain ⟨b, dx, fs, rfl, hb, hsp⟩ := h
  cases ry
  obtain ⟨mA, J, _⟩ := ins_get I.hok hb
  obtain ⟨od, J, _⟩ := J.look
  obtain ⟨mm, hF⟩ := I.fr
  have hl := F.len _ _ _ _ hsp
  have hb := bi s [.ref b, v] I.kIn (by simpa using hl)
  simp only [List.append_nil] at hb
  refine PySem.W.notIn_K hF I.ok.mod.kin J M.at_ M.fn (wpAny_call (codeAny_mono (F.run X.A X.stack s H ⟨[.ref b, v], []⟩ [.ref b, v] [.ref b, x] _ _ (hr.mono hj) I.env0 hb (.cons rfl (.cons rx .nil)) hsp) fun r s' hq' => ?_))
  cases r with
  | error e => exact hq'.elim
  | ok fl =>
    cases fl with
    | ret w =>
      obtain ⟨z, H', I', rz, t, ez, q⟩ := I.after hq'
      subst ez
      cases rz
      exact wpAny_truthy_bool ⟨.bl (!t), H', I', rfl, q⟩
    | next => exact False.elim hq'
    | brk => exact False.elim hq'
    | cont => exact False.elim hq'
/-- o[x] -/
def rSubO (C : Addr) (sp : Sp) (E : XK) : R2 := fun x y H Q => ∃ a dx fs, x = .ref a ∧ H a = some (.ins C dx fs) ∧ sp [.ref a, y] H Q E
theorem pe_subO {CX : CXT} {E : XK} {a b : Expr} {pos : Pos} {ta tb : TE} (ha : PE X a ta) (hb : PE X b tb) (M : Meth X.K C "__getitem__" (He.fAd X.K (cn, some "__getitem__"))) (hfn : PySem.W.fnIn X.K (He.fAd X.K (cn, some "__getitem__")) = true)
    (O : OkD X.prog X.w X.K X.mg X.base CX k (cn, some "__getitem__") ps [] sp) (hr : Room j X.A) (hj : k + 1 ≤ j) (hx : Passes CX X E)
    (hsl : ∀ x i, subscripted b true (.ref x) i = runValue (.builtin "lifetime.subscript" ⟨[.ref x, i], []⟩) := by intro _ _; rfl) : PE X (.Subscript a b pos) (tOp (rSubO C sp E) ta tb) := by
  obtain ⟨fd, ds, F, bi, v⟩ := O.ex
  cases v
  refine ⟨fun pins s σ H Q I h => ?_⟩
  refine Subscript_ (binT ha hb I h fun v u s2 x y H2 I2 rx ry q => ?_)
  obtain ⟨p, dx, fs, rfl, hp, hsp⟩ := q
  cases rx
  obtain ⟨mA, J, _⟩ := ins_get I2.hok hp
  obtain ⟨od, J, _⟩ := J.look
  obtain ⟨mm, hF⟩ := I2.fr
  have hl := F.len _ _ _ _ hsp
  have hbb := bi s2 [.ref p, u] I2.kIn (by simpa using hl)
  simp only [List.append_nil] at hbb
  refine PySem.W.sub_K hF I2.ok.mod.kin J M.at_ hfn M.fn (wpAny_call (codeAny_mono (F.run X.A.in1 X.stack s2 H2 ⟨[.ref p, u], []⟩ [.ref p, u] [.ref p, y] _ _ ((hr.mono hj).in1) I2.env0.in1 hbb (.cons rfl (.cons ry .nil)) hsp) fun r s' hq => ?_)) (hsl _ _)
  cases r with
  | error e => exact hx pins σ H2 s2 e s' I2 hq
  | ok fl =>
    cases fl with
    | ret w => exact I2.after hq
    | next => exact False.elim hq
    | brk => exact False.elim hq
    | cont => exact False.elim hq
/-- len(o) -/
def rLenO (C : Addr) (sp : Sp) : List V → Hp → VK → Prop := fun xs H Q => ∃ a dx fs, xs = [.ref a] ∧ H a = some (.ins C dx fs) ∧ sp [.ref a] H (fun v H' => ∃ n : Int, v = .int n ∧ 0 ≤ n ∧ n < 2 ^ 62 ∧ Q (.int n) H') fun _ _ _ => False
theorem call_lenO (M : Meth X.K C "__len__" (He.fAd X.K (cn, some "__len__"))) (O : OkD X.prog X.w X.K X.mg X.base CX0 k (cn, some "__len__") ps [] sp) (hr : Room j X.A) (hj : k + 1 ≤ j) : CallR X (.builtin "len") (rLenO C sp) := by
  obtain ⟨fd, ds, F, bi, v⟩ := O.ex
  cases v
  intro pins s σ H xs us Q I r h
  obtain ⟨a, dx, fs, rfl, ha, hsp⟩ := h
  obtain ⟨u, rfl, ru⟩ : ∃ u, us = [u] ∧ RelV (.ref a) u := by
    cases r with
    | cons p q => cases q; exact ⟨_, rfl, p⟩
  cases ru
  obtain ⟨mA, J, _⟩ := ins_get I.hok ha
  obtain ⟨od, J, _⟩ := J.look
  obtain ⟨mm, hF⟩ := I.fr
  have hl := F.len _ _ _ _ hsp
  have hb := bi s [.ref a] I.kIn (by simpa using hl)
  simp only [List.append_nil] at hb
  refine PySem.W.len_K hF I.ok.mod.kin J M.at_ M.fn (wpAny_call (codeAny_mono (F.run X.A.in1 X.stack s H ⟨[.ref a], []⟩ [.ref a] [.ref a] _ _ ((hr.mono hj).in1) I.env0.in1 hb (.cons rfl .nil) hsp) fun r s' hq => ?_))
  cases r with
  | error e => exact hq.elim
  | ok fl =>
    cases fl with
    | ret w =>
      obtain ⟨z, H', I', rz, n, ez, n0, n1, q⟩ := I.after hq
      subst ez
      obtain ⟨t, rfl⟩ := rz
      exact ⟨⟨n0, by omega⟩, .int n, H', I'.tok _, ⟨_, rfl⟩, q⟩
    | next => exact False.elim hq
    | brk => exact False.elim hq
    | cont => exact False.elim hq
end
end Vf
/-! ### == of dicts whose values have an == that runs -/
namespace PySem.W
open Lean Elab Tactic Meta PySem PySem.Calls PyProof.Rows PyProof.V PySem.Spec
section
variable {prog : Program} {w : World} {K : Type} [DecidableEq K] {knd : KeyKind prog w K} {A : Around} {E : Value → Shared → Prop} {s : Shared}
def VfEqJ (prog : Program) (w : World) (A : Around) (E : Value → Shared → Prop) (J : Shared → Prop) (v y : Value) (e : Bool) : Prop := ∀ (s : Shared) (Q : Bool → Shared → Prop), J s → (∀ s', J s' → Q e s') → wpAny (model prog w) A (eqBool v y) Q E s
inductive VfHits {K : Type} [DecidableEq K] (prog : Program) (w : World) (A : Around) (E : Value → Shared → Prop) (J : Shared → Prop) (kb : List (K × Value)) : List (K × Value) → Bool → Prop
  | nil : VfHits prog w A E J kb [] true
  | miss {k : K} {v : Value} {r : List (K × Value)} : valueAt kb k = none → VfHits prog w A E J kb ((k, v) :: r) false
  | hit {k : K} {v y : Value} {r : List (K × Value)} {e b : Bool} : valueAt kb k = some y → VfEqJ prog w A E J v y e → VfHits prog w A E J kb r b → VfHits prog w A E J kb ((k, v) :: r) (e && b)
theorem VfHits.inv {J : Shared → Prop} {kb : List (K × Value)} {k : K} {v : Value} {r : List (K × Value)} {b : Bool} (h : VfHits prog w A E J kb ((k, v) :: r) b) :
    (valueAt kb k = none ∧ b = false) ∨ ∃ y e b', valueAt kb k = some y ∧ VfEqJ prog w A E J v y e ∧ VfHits prog w A E J kb r b' ∧ b = (e && b') := by
  cases h with
  | miss hn => exact .inl ⟨hn, rfl⟩
  | hit hy he hr => exact .inr ⟨_, _, _, hy, he, hr, rfl⟩
theorem vf_samePairs {J : Shared → Prop} {nm : String} {a b : Addr} {ka kb : List (K × Value)} {r : Bool} {Q : Bool → Shared → Prop} (ha : (a == sysModules) = false) (hb : (b == sysModules) = false)
    (hJ : ∀ s', J s' → s'.heap.get? a = s.heap.get? a ∧ s'.heap.get? b = s.heap.get? b) (h0 : J s) (da : s.heap.DictOf knd a ka) (db : s.heap.DictOf knd b kb) (hits : ka.length = kb.length → VfHits prog w A E J kb ka r) (h : ∀ s', J s' → Q (ka.length == kb.length && r) s') :
    wpAny (model prog w) A (Builtin.Dict.samePairs nm a b) Q E s := by
  obtain ⟨oa, es, ep, hoa, _, hda, hka, hpa, _⟩ := da
  obtain ⟨ob, es', ep', hob, _, hdb, hkb, hpb, _⟩ := db
  have hla : ka.length = es.size := by rw [← hpa.length]; exact Array.length_toList
  have hlb : kb.length = es'.size := by rw [← hpb.length]; exact Array.length_toList
  have hfind : ∀ k, findBy knd.is es' k = valueAt kb k := fun k => by
    rw [← hpb.find k]
    clear hlb hpb hkb hdb hob
    obtain ⟨l⟩ := es'
    simp [findBy]
  have hA : ∀ {s'}, J s' → s'.heap.get? a = some oa := fun j => (hJ _ j).1.trans hoa
  have hB : ∀ {s'}, J s' → s'.heap.get? b = some ob := fun j => (hJ _ j).2.trans hob
  rw [hla, hlb] at h
  unfold Builtin.Dict.samePairs Builtin.Dict.showsAll
  rw [if_neg (show ¬ (a == sysModules) = true by rw [ha]; exact Bool.false_ne_true), if_neg (show ¬ (b == sysModules) = true by rw [hb]; exact Bool.false_ne_true)]
  refine wpAny_bind (wpAny_pure (wpAny_bind (wpAny_pure ?_)))
  refine wpAny_bind (wpAny_dictEntries hoa hda ?_)
  dsimp only
  refine wpAny_bind (wpAny_dictEntries hob hdb ?_)
  by_cases hsz : es.size = es'.size
  case neg =>
    rw [if_pos (by simpa using hsz)]
    have hbf : (es.size == es'.size) = false := by simpa using hsz
    rw [hbf, Bool.false_and] at h
    exact wpAny_bind (wpAny_rule (wpAny_pure (h _ h0)))
  case pos =>
    have h' : ∀ s', J s' → Q r s' := fun s' j => by simpa [hsz] using h s' j
    have hits' := hits (by rw [hla, hlb]; exact hsz)
    rw [if_neg (by rw [hsz]; simp)]
    refine wpAny_bind (wpAny_dictEpoch hoa hda ?_)
    refine wpAny_bind ?_
    rw [Std.Legacy.Range.forIn_eq_forIn_range']
    simp only [Std.Legacy.Range.size, Nat.sub_zero, Nat.add_sub_cancel, Nat.div_one]
    refine wpAny_forIn_list _
      (fun rest q s' => J s' ∧ q = (none, ()) ∧ ∃ i, rest = List.range' i (es.size - i) ∧ i ≤ es.size ∧ VfHits prog w A E J kb (ka.drop i) r)
      _ ?_ ?_ _ _ ⟨h0, rfl, 0, by simp, Nat.zero_le _, hits'⟩
    · rintro x rest q s' ⟨js, rfl, i, hr, hi, hpre⟩
      have hlt : i < es.size := by
        rcases Nat.lt_or_ge i es.size with h | h
        · exact h
        · rw [Nat.sub_eq_zero_of_le h] at hr; simp at hr
      obtain ⟨rfl, hrest⟩ : x = i ∧ rest = List.range' (i + 1) (es.size - (i + 1)) := by
        have e : es.size - i = (es.size - (i + 1)) + 1 := by omega
        rw [e, List.range'_succ] at hr
        injection hr with h1 h2
        exact ⟨h1, h2⟩
      refine wpAny_bind (wpAny_dictEntries (hA js) hda ?_)
      rw [Array.getElem?_eq_getElem hlt]
      have hlt' : x < ka.length := by rw [hla]; exact hlt
      obtain ⟨k, v, hkv⟩ : ∃ k v, ka[x] = (k, v) := ⟨_, _, rfl⟩
      have hdrop : ka.drop x = (k, v) :: ka.drop (x + 1) := by rw [← hkv]; exact List.drop_eq_getElem_cons hlt'
      obtain ⟨hkey, hval⟩ := hpa.get? (i := x) (e := es[x]) (k := k) (v := v) (by rw [Array.getElem?_toList]; exact Array.getElem?_eq_getElem hlt) (by rw [List.getElem?_eq_getElem hlt', hkv])
      obtain ⟨k', hk', hh⟩ := hka es[x] (Array.getElem_mem hlt)
      have ekk : k' = k := knd.inj _ _ _ hk' hkey
      rw [ekk] at hh
      rw [hdrop] at hpre
      show wpAny _ _ (holding [es[x].key, es[x].val] _ >>= _) _ _ _
      rw [hh]
      refine wpAny_bind (wpAny_holding (wpAny_bind (wpAny_dictFind_of hkey (hB js) hdb hkb ?_)))
      cases hj : es'.findIdx? fun e => knd.is k e.key with
      | none =>
        have hn : valueAt kb k = none := by rw [← hfind k, findBy_of_findIdx?, hj]
        rcases hpre.inv with ⟨_, er⟩ | ⟨y, _, _, hy, _⟩
        · rw [er] at h'
          refine wpAny_pure ?_
          show wpAny _ _ (if (!false) = true then _ else _) _ _ _
          rw [if_pos (by decide)]
          exact wpAny_pure (wpAny_pure (h' _ js))
        · rw [hn] at hy; exact nomatch hy
      | some j =>
        obtain ⟨hjlt, _, _⟩ := Array.findIdx?_eq_some_iff_getElem.mp hj
        have hv' : valueAt kb k = some es'[j].val := by
          rw [← hfind k, findBy_of_findIdx?, hj]
          simp [Array.getElem?_eq_getElem hjlt]
        refine wpAny_bind (wpAny_dictEntries (hB js) hdb ?_)
        rw [Array.getElem?_eq_getElem hjlt]
        rcases hpre.inv with ⟨hn, _⟩ | ⟨y, e, b', hy, he, hrr, er⟩
        · rw [hv'] at hn; exact nomatch hn
        · have ey : es'[j].val = y := Option.some.inj (hv'.symm.trans hy)
          rw [← ey, ← hval] at he
          refine wpAny_holding (he _ _ js fun s2 js2 => ?_)
          cases e with
          | false =>
            rw [er, Bool.false_and] at h'
            show wpAny _ _ (if (!false) = true then _ else _) _ _ _
            rw [if_pos (by decide)]
            exact wpAny_pure (wpAny_pure (h' _ js2))
          | true =>
            rw [Bool.true_and] at er
            rw [← er] at hrr
            show wpAny _ _ (if (!true) = true then _ else _) _ _ _
            rw [if_neg (by decide)]
            refine wpAny_bind (wpAny_dictEpoch (hA js2) hda ?_)
            rw [if_neg (by simp)]
            exact wpAny_pure ⟨js2, rfl, x + 1, hrest, hlt, hrr⟩
    · rintro q s' ⟨js, rfl, i, hr, hi, hpre⟩
      have hin : i = es.size := by
        rcases Nat.lt_or_ge i es.size with h | h
        · have e : es.size - i = (es.size - (i + 1)) + 1 := by omega
          rw [e, List.range'_succ] at hr; exact nomatch hr
        · exact Nat.le_antisymm hi h
      refine wpAny_pure ?_
      rw [hin, ← hla, List.drop_length] at hpre
      cases hpre
      exact h' _ js
theorem vf_rcDicts {J : Shared → Prop} {a b : Addr} {ka kb : List (K × Value)} {r : Bool} (ha : (a == sysModules) = false) (hb : (b == sysModules) = false)
    (hJ : ∀ s', J s' → s'.heap.get? a = s.heap.get? a ∧ s'.heap.get? b = s.heap.get? b) (h0 : J s) (da : s.heap.DictOf knd a ka) (db : s.heap.DictOf knd b kb) (hu : A.units < cLine) (hits : ka.length = kb.length → VfHits prog w A.in1 E J kb ka r) {Q : Value → Shared → Prop} (h : ∀ s', J s' → Q (.bool (ka.length == kb.length && r)) s') : wpAny (model prog w) A (compareOp .Eq (.ref a) (.ref b)) Q E s := by
  refine wpAny_richCompare_same_room (op := .Eq) da.typeIs db.typeIs PySem.F.slot_dict_eq (wpAny_call_entry PySem.F.slot_dict_eq da.typeIs PySem.F.entry_dict_eq ?_ (PySem.F.args_dict_eq_2 _ _)) hu
  show wpAny _ _ (Builtin.Dict.dictSlotArgs "__eq__" ⟨[.ref a, .ref b], []⟩ >>= _) _ _ s
  refine wpAny_bind ?_
  unfold Builtin.Dict.dictSlotArgs
  refine wpAny_bind (wpAny_notOrdered_dict da.typeIs ?_)
  show wpAny _ _ (pure (Value.ref a, Value.ref b)) _ _ s
  refine wpAny_pure ?_
  refine wpAny_bind (wpAny_isInstance (T := "dict") db.typeIs PySem.F.sub_dict_dict ?_)
  simp only [Bool.not_true, Bool.false_eq_true, if_false]
  refine wpAny_bind (wpAny_pure (wpAny_bind (wpAny_pure ?_)))
  refine wpAny_bind (vf_samePairs ha hb hJ h0 da db hits fun s' js => ?_)
  refine wpAny_pure ⟨_, rfl, ?_, ?_⟩
  · exact fun x => nomatch x
  · simpa using h s' js
end
end PySem.W
namespace Vf
open PySem PySem.Spec PyProof.Rows L2
/-- the entries of a dict against another dict; ls: the other one -/
inductive DHits (D : V → V → Bool → Prop) (ls : List (Key × V)) : List (Key × V) → Bool → Prop
  | nil : DHits D ls [] true
  | miss {k : Key} {v : V} {r : List (Key × V)} : valV ls k = none → DHits D ls ((k, v) :: r) false
  | hit {k : Key} {v y : V} {r : List (Key × V)} {e b : Bool} : valV ls k = some y → D v y e → DHits D ls r b → DHits D ls ((k, v) :: r) (e && b)
theorem DHits.vf {P : Program} {w : World} {A : Around} {E : Value → Shared → Prop} {J : Shared → Prop} {D : V → V → Bool → Prop} {ls : List (Key × V)} {vb : List (Key × Value)} (rb : KV ls vb)
    (hD : ∀ {x y u v b}, D x y b → RelV x u → RelV y v → PySem.W.VfEqJ P w A E J u v b) : ∀ {ks : List (Key × V)} {va : List (Key × Value)} {r : Bool}, KV ks va → DHits D ls ks r → PySem.W.VfHits P w A E J vb va r
  | [], _, _, ra, h => by
    cases h
    cases ra
    exact .nil
  | (k, x) :: ks, va, r, ra, h => by
    cases ra with
    | @cons _ q _ qs h1 h2 =>
      obtain ⟨e, rx⟩ := h1
      obtain ⟨k', u⟩ := q
      dsimp only at e
      subst e
      have hv := rb.val k
      cases h with
      | miss hn =>
        rw [hn] at hv
        refine .miss ?_
        cases hq : valueAt vb k with
        | none => rfl
        | some z =>
          rw [hq] at hv
          exact hv.elim
      | hit hy he hr =>
        rw [hy] at hv
        obtain ⟨z, hz, rz⟩ := hv.some_of
        exact .hit hz (hD he rx rz) (DHits.vf rb hD h2 hr)
section
variable {X : Cx}
/-- == of two dicts by the values' own == -/
def rEqDB (D : Eqb) : R2 := fun x y H Q => ∃ a b ks ls r, x = .ref a ∧ y = .ref b ∧ a ≠ b ∧ H a = some (.dK ks) ∧ H b = some (.dK ls) ∧
  (ks.length = ls.length → DHits (fun v y e => ∀ H', (∀ c o, c ≠ a → c ≠ b → H c = some o → H' c = some o) → D v y H' e) ls ks r) ∧ ∀ H', Ext H H' → Q (.bl (ks.length == ls.length && r)) H'
theorem op_eqDB {n : Nat} {D : Eqb} (h : EqB X n D) (hr : Room (n + 1) X.A) : OpR X (compareOp .Eq) (rEqDB D) := by
  intro pins s σ H x y v u Q I rx ry hq
  obtain ⟨a, b, ks, ls, r, rfl, rfl, nab, ea, eb, hits, q⟩ := hq
  cases rx
  cases ry
  obtain ⟨_, ya, va, ra, da⟩ := (show ObjOk X.prog X.w H s.heap a (.dK ks) from I.hok a _ ea)
  obtain ⟨_, yb, vb, rb, db⟩ := (show ObjOk X.prog X.w H s.heap b (.dK ls) from I.hok b _ eb)
  obtain ⟨oa, Ia⟩ := I.lock ea trivial
  have eb1 : (upd H a (.frz oa (.dK ks))) b = some (.dK ls) := by rw [upd_ne nab.symm]; exact eb
  obtain ⟨ob, Ib⟩ := Ia.lock eb1 trivial
  have fa : (upd (upd H a (.frz oa (.dK ks))) b (.frz ob (.dK ls))) a = some (.frz oa (.dK ks)) := by rw [upd_ne nab, upd_same]
  have fb : (upd (upd H a (.frz oa (.dK ks))) b (.frz ob (.dK ls))) b = some (.frz ob (.dK ls)) := upd_same
  have out : ∀ c o, c ≠ a → c ≠ b → H c = some o → (upd (upd H a (.frz oa (.dK ks))) b (.frz ob (.dK ls))) c = some o := fun c o h1 h2 e => by rw [upd_ne h2, upd_ne h1]; exact e
  have noa := I.nofrz ea trivial
  have nob := Ia.nofrz eb1 trivial
  generalize upd (upd H a (.frz oa (.dK ks))) b (.frz ob (.dK ls)) = H2 at Ib fa fb out
  refine PySem.W.vf_rcDicts (knd := mixKind X.prog X.w) (r := r) (J := fun s' => ∃ H', L2.Inv X pins σ H' s' ∧ Ext H2 H') ya yb (fun s' js => ?_) ⟨H2, Ib, Ext.rfl'⟩ da db hr.units0 (fun hl => ?_) fun s' js => ?_
  · obtain ⟨H', I', e⟩ := js
    exact ⟨(I'.frzK (e _ _ fa)).2.1.trans (Ib.frzK fa).2.1.symm, (I'.frzK (e _ _ fb)).2.1.trans (Ib.frzK fb).2.1.symm⟩
  · refine DHits.vf rb (fun {x y u v bb} hd rx ry s2 Q2 js k => ?_) ra (hits (by rw [ra.length, rb.length]; exact hl))
    obtain ⟨H', I', e⟩ := js
    refine wpAny_mono (h X.A.in1 pins s2 σ H' x y u v bb ⟨hr.in1, rfl⟩ I' rx ry (hd H' fun c o h1 h2 hc => e _ _ (out c o h1 h2 hc))) (fun r2 s3 q2 => ?_) fun _ _ z => z
    obtain ⟨h2, H3, I3, e2⟩ := q2
    subst h2
    exact k s3 ⟨H3, I3, e.trans e2⟩
  · obtain ⟨H', I', e⟩ := js
    have fa' := e _ _ fa
    have fb' := e _ _ fb
    have I2 := I'.unlock fb' nob
    have fa2 : (upd H' b (.dK ls)) a = some (.frz oa (.dK ks)) := by rw [upd_ne nab]; exact fa'
    have I3 := I2.unlock fa2 noa
    refine ⟨.bl _, _, I3, by rw [← ra.length, ← rb.length]; rfl, q _ fun c o hc => ?_⟩
    by_cases h1 : c = a
    · subst h1
      rw [ea] at hc
      cases hc
      exact upd_same
    · rw [upd_ne h1]
      by_cases h2 : c = b
      · subst h2
        rw [eb] at hc
        cases hc
        exact upd_same
      · rw [upd_ne h2]
        exact e _ _ (out c o h1 h2 hc)
/-- data beside data -/
def DDat (K : PySem.W.Frag) : Eqb := fun x y H b => ∃ d e, Dp K H x d ∧ Dp K H y e ∧ SeqAt.shaped d = true ∧ SeqAt.shaped e = true ∧ b = PyData.eqv d e ∧ (x = y → b = true)
theorem eqB_dat {n : Nat} : EqB X n (DDat X.K) := fun A pins s σ H x y u v b sb I rx ry hd => by
  obtain ⟨d, e, h1, h2, sd, se, rfl, hid⟩ := hd
  obtain ⟨as, r1⟩ := Dp.reads I d x u h1 rx
  obtain ⟨bs, r2⟩ := Dp.reads I e y v h2 ry
  have hf : ∀ i t, u ≠ .float i t := fun i t z => by
    subst z
    cases h1 <;> first | (cases rx; done) | (obtain ⟨_, z⟩ := rx; cases z; done)
  have hxy : (u == v) = true → x = y := fun z => by
    have euv := eq_of_beq z
    subst euv
    cases h1 <;> cases h2 <;> first
      | (cases rx; cases ry; rfl)
      | (cases rx; cases ry; done)
      | (obtain ⟨t, q⟩ := rx; obtain ⟨t', q'⟩ := ry; rw [q] at q'; injection q' with q1 q2; rw [q1])
      | (obtain ⟨t, q⟩ := rx; obtain ⟨t', q'⟩ := ry; rw [q] at q'; cases q'; done)
      | (cases rx; obtain ⟨t, q⟩ := ry; cases q; done)
      | (obtain ⟨t, q⟩ := rx; cases ry; cases q; done)
  exact eqB_of_rc (fun z => hid (hxy z)) hf I (SeqAt.compareEq_shaped (A := A) r1 r2 sd se sb.room.units ⟨.bl _, H, I, rfl, rfl, Ext.rfl'⟩)
end
end Vf

set_option Elab.async false
set_option linter.all false
set_option maxRecDepth 100000
set_option maxHeartbeats 2000000
namespace PySem.W
open PySem PySem.SeqAt MeetsSeq
section
variable {prog : Program} {w : World} {A : Around} {E : Value → Shared → Prop} {s : Shared} {a : Addr} {o : Obj}
theorem vf_no_dic_str {z : Str} {t : Tok} (ha : s.heap.get? a = some o) (hc : o.cls = .type "dict") {Q : Fin → Shared → Prop} (h : Q (.done (.ret .notImplemented)) s) : wpAny (model prog w) A (PySem.Builtin.«dict.__eq__» ⟨[.ref a, .str z t], []⟩) Q E s := by
  have f1 := PySem.F.sub_str_dict
  wp_walk
  exact h
theorem vf_no_str_dic {z : Str} {t : Tok} {es : Array DictEntry} {ep : Nat} (ha : s.heap.get? a = some o) (hd : o.data = .dict es ep) {Q : Fin → Shared → Prop} (h : Q (.done (.ret .notImplemented)) s) : wpAny (model prog w) A (PySem.Builtin.«str.__eq__» ⟨[.str z t, .ref a], []⟩) Q E s := by
  obtain ⟨hp, gg, d, tk, os⟩ := s
  obtain ⟨oc, odd, oda, osl⟩ := o
  dsimp only at hd
  subst hd
  wp_walk using AutoSeq1.wpAny_loadPart' ha
  exact h
theorem vf_rc_str_dict {b : Str} {u : Tok} {es : Array DictEntry} {ep : Nat} (ho : s.heap.get? a = some o) (hc : o.cls = .type "dict") (hd : o.data = .dict es ep) (hu : A.units < cLine) : RcAt A s (.str b u) (.ref a) false := fun prog w E Q h => by
  have tb : s.TypeIs (.ref a) "dict" := ⟨o, ho, hc⟩
  exact rc_eq_decline_or (k := false) (typeIs_str s b u) tb (by decide) PySem.F.sub_dict_str PySem.F.slot_str_eq PySem.F.slot_dict_eq_refl
    (fun _ hq => wpAny_call_entry PySem.F.slot_str_eq (typeIs_str s b u) PySem.F.entry_str_eq (vf_no_str_dic ho hd ⟨_, rfl, hq⟩) (PySem.F.args_str_eq_2 _ _))
    (fun _ hq => wpAny_call_entry PySem.F.slot_dict_eq_refl tb PySem.F.entry_dict_eq (vf_no_dic_str ho hc ⟨_, rfl, hq⟩) (PySem.F.args_dict_eq_2 _ _))
    (fun _ hq => wpAny_of_eq (rfl : isSame (.str b u) (.ref a) = pure false) hq) (.inr hu) h
theorem vf_str_dict {b : Str} {u : Tok} {es : Array DictEntry} {ep : Nat} (ho : s.heap.get? a = some o) (hc : o.cls = .type "dict") (hd : o.data = .dict es ep) (hu : A.units < cLine) : EqAt A s (.str b u) (.ref a) false := fun prog w E Q h => by
  unfold eqBool
  refine wpAny_holding ?_
  refine wpAny_ite_split (fun hab => absurd (eq_of_beq hab) nofun) (fun _ => ?_)
  exact wpAny_bind (vf_rc_str_dict ho hc hd hu prog w E _ (wpAny_truthy_bool h))
end
end PySem.W
namespace Vf
open PySem PySem.Spec PyProof.Rows L2
/-- == of two items, in place -/
inductive EqI (K : PySem.W.Frag) (H : Hp) : V → V → Bool → Prop
  | flat {x y : V} : flatV x = true → flatV y = true → EqI K H x y (eqV x y)
  | same (a : Addr) : EqI K H (.ref a) (.ref a) true
  | strT {z : Str} {a : Addr} {xs : List V} : SqT K H a xs → EqI K H (.str z) (.ref a) false
  | strL {z : Str} {a : Addr} {xs : List V} : SqL K H a xs → EqI K H (.str z) (.ref a) false
  | strD {z : Str} {a : Addr} {ks : List (Key × V)} : H a = some (.dK ks) → EqI K H (.str z) (.ref a) false
section
variable {X : Cx} {pins : List (Addr × Obj)} {σ : L2.St} {H : Hp} {s : Shared}
theorem EqI.at (I : L2.Inv X pins σ H s) {A : Around} {x y : V} {u v : Value} {b : Bool} (h : EqI X.K H x y b) (rx : RelV x u) (ry : RelV y v) (hu : A.units < cLine) : SeqAt.EqAt A s u v b := by
  cases h with
  | flat fx fy => exact eqAt_V rx ry fx fy
  | same a =>
    cases rx
    cases ry
    exact SeqAt.EqAt.same _
  | strT h =>
    obtain ⟨t, rfl⟩ := rx
    cases ry
    obtain ⟨its, r, p, _⟩ := I.tuple h
    exact SeqAt.EqAt.str_tuple _ _ p hu
  | strL h =>
    obtain ⟨t, rfl⟩ := rx
    cases ry
    obtain ⟨its, r, p, _⟩ := I.list h
    exact SeqAt.EqAt.str_list _ _ p.isList hu
  | strD h =>
    obtain ⟨t, rfl⟩ := rx
    cases ry
    obtain ⟨_, _, vs, _, o, es, ep, h1, h2, h3, _⟩ := (show ObjOk X.prog X.w H s.heap _ (.dK _) from I.hok _ _ h)
    exact PySem.W.vf_str_dict h1 h2.1 h3 hu
end
theorem vals_mem : ∀ {xs : List V} {us : List Value} {w : Value}, Vals xs us → w ∈ us → ∃ z ∈ xs, RelV z w
  | _, _, _, .nil, h => nomatch h
  | _, _, _, .cons r t, h => by
    rcases List.mem_cons.mp h with rfl | h
    · exact ⟨_, List.mem_cons_self, r⟩
    · obtain ⟨z, hz, rz⟩ := vals_mem t h
      exact ⟨z, List.mem_cons_of_mem _ hz, rz⟩
def answ (e : V → Bool) (w : Value) : Bool := match absV w with | some z => e z | none => false
theorem answ_of (e : V → Bool) {z : V} {w : Value} (r : RelV z w) : answ e w = e z := by
  unfold answ
  rw [r.abs]
theorem any_answ (e : V → Bool) : ∀ {xs : List V} {us : List Value}, Vals xs us → us.any (answ e) = xs.any e
  | _, _, .nil => rfl
  | _, _, .cons r t => by
    rw [List.any_cons, List.any_cons, answ_of e r, any_answ e t]
theorem items_at {A : Around} {s : Shared} {F : V → V → Prop} (ih : ∀ {x y v u}, RelV x v → RelV y u → F x y → SeqAt.EqAt A s v u true) {xs ys : List V} (hp : Paired F xs ys) :
    ∀ {us ws : List Value}, Vals xs us → Vals ys ws → ∀ j (h1 : j < us.length) (h2 : j < ws.length), SeqAt.EqAt A s us[j] ws[j] true := by
  induction hp with
  | nil =>
    intro us ws r1 r2 j h1 h2
    cases r1
    exact absurd h1 (Nat.not_lt_zero j)
  | cons h _ k =>
    intro us ws r1 r2 j h1 h2
    cases r1 with
    | cons a1 b1 =>
      cases r2 with
      | cons a2 b2 =>
        cases j with
        | zero => exact ih a1 a2 h
        | succ j => exact k b1 b2 j (Nat.lt_of_succ_lt_succ h1) (Nat.lt_of_succ_lt_succ h2)
section
variable {X : Cx}
/-- x not in l, l a list, item by item -/
def rNotInI (K : PySem.W.Frag) : R2 := fun x y H Q => ∃ (p : Addr) (xs : List V) (e : V → Bool), y = .ref p ∧ SqL K H p xs ∧ (∀ z ∈ xs, EqI K H z x (e z)) ∧ Q (.bl (!xs.any e)) H
theorem op_notInI (hu : X.A.units + 64 < cLine) : OpR X (compareOp .NotIn) (rNotInI X.K) := by
  intro pins s σ H x y v u Q I rx ry h
  obtain ⟨p, xs, e, rfl, hx, hall, q⟩ := h
  cases ry
  obtain ⟨its, r, pl, hz⟩ := I.list hx
  refine SeqAt.notIn_listAt (answ e) pl.isList (fun w hw => ?_) ⟨.bl _, H, I, rfl, ?_⟩
  · obtain ⟨z, hz, rz⟩ := vals_mem r (by simpa using hw)
    rw [answ_of e rz]
    exact (hall z hz).at I rz rx (by show X.A.units + 1 < cLine; omega)
  · rw [List.any_toArray, any_answ e r]
    exact q
/-- l != m, two lists or two tuples of equal items -/
def rNe0 (K : PySem.W.Frag) : R2 := fun x y H Q => ∃ (a b : Addr) (xs ys : List V), x = .ref a ∧ y = .ref b ∧ ((SqT K H a xs ∧ SqT K H b ys) ∨ (SqL K H a xs ∧ SqL K H b ys)) ∧ Paired (fun z z' => EqI K H z z' true) xs ys ∧ Q (.bl false) H
theorem op_ne0 (hu : X.A.units + 64 < cLine) : OpR X (compareOp .NotEq) (rNe0 X.K) := by
  intro pins s σ H x y v u Q I rx ry h
  obtain ⟨a, b, xs, ys, rfl, rfl, hq, hp, q⟩ := h
  cases rx
  cases ry
  have hu1 : X.A.in1.units < cLine := by show X.A.units + 1 < cLine; omega
  rcases hq with ⟨ha, hb⟩ | ⟨ha, hb⟩
  · obtain ⟨us, r1, p1, _⟩ := I.tuple ha
    obtain ⟨ws, r2, p2, _⟩ := I.tuple hb
    have hs : us.toArray.size = ws.toArray.size := by rw [List.size_toArray, List.size_toArray, ← r1.length, ← r2.length]; exact Paired.length hp
    refine SeqAt.RcNeAt.tuples (e := fun _ => true) p1 p2 (by omega) (fun j h1 h2 => ?_) _ _ _ _ ?_
    · have := items_at (fun r1 r2 k => EqI.at I k r1 r2 hu1) hp r1 r2 j (by simpa using h1) (by simpa using h2)
      simpa using this
    · rw [hs, show ((List.range (min ws.toArray.size ws.toArray.size)).all fun _ => true) = true from List.all_eq_true.mpr fun _ _ => rfl, beq_self_eq_true]
      exact ⟨.bl false, H, I, rfl, q⟩
  · obtain ⟨us, r1, p1, _⟩ := I.list ha
    obtain ⟨ws, r2, p2, _⟩ := I.list hb
    have hs : us.toArray.size = ws.toArray.size := by rw [List.size_toArray, List.size_toArray, ← r1.length, ← r2.length]; exact Paired.length hp
    refine SeqAt.RcNeAt.lists (e := fun _ => true) p1.isList p2.isList hs (by omega) (fun j h1 h2 => ?_) _ _ _ _ ?_
    · have := items_at (fun r1 r2 k => EqI.at I k r1 r2 hu1) hp r1 r2 j (by simpa using h1) (by simpa using h2)
      simpa using this
    · rw [show ((List.range us.toArray.size).all fun _ => true) = true from List.all_eq_true.mpr fun _ _ => rfl]
      exact ⟨.bl false, H, I, rfl, q⟩
/-- d != e, two dicts of equal items -/
def rNe0D (K : PySem.W.Frag) : R2 := fun x y H Q => ∃ (a b : Addr) (ks ls : List (Key × V)), x = .ref a ∧ y = .ref b ∧ H a = some (.dK ks) ∧ H b = some (.dK ls) ∧ ks.length = ls.length ∧ (∀ p ∈ ks, ∃ u, valV ls p.1 = some u ∧ EqI K H p.2 u true) ∧ Q (.bl false) H
theorem op_ne0D (hu : X.A.units + 64 < cLine) : OpR X (compareOp .NotEq) (rNe0D X.K) := by
  intro pins s σ H x y v u Q I rx ry h
  obtain ⟨a, b, ks, ls, rfl, rfl, ha, hb, hl, hp, q⟩ := h
  cases rx
  cases ry
  have hu1 : X.A.in1.units < cLine := by show X.A.units + 1 < cLine; omega
  obtain ⟨_, ya, va, ra, da⟩ := (show ObjOk X.prog X.w H s.heap a (.dK ks) from I.hok a _ ha)
  obtain ⟨_, yb, vb, rb, db⟩ := (show ObjOk X.prog X.w H s.heap b (.dK ls) from I.hok b _ hb)
  have e : va.length = vb.length := by rw [← ra.length, ← rb.length]; exact hl
  refine PySem.W.keq_ne (knd := mixKind X.prog X.w) (r := true) ya yb da db (by omega) (fun _ => ?_) ?_
  · have go : ∀ {ks : List (Key × V)} {va : List (Key × Value)}, KV ks va → (∀ p ∈ ks, ∃ u, valV ls p.1 = some u ∧ EqI X.K H p.2 u true) → PySem.W.KeqHits X.A.in1 s vb va true := by
      intro ks va ra
      unfold KV at ra
      induction ra with
      | nil => intro _; exact .nil
      | @cons p q ps qs h t k =>
        intro hp
        obtain ⟨h1, h2⟩ := h
        obtain ⟨u, e, f⟩ := hp p List.mem_cons_self
        have rr : RelO (some u) (valueAt vb p.1) := by rw [← e]; exact rb.val p.1
        obtain ⟨y, hy, ry⟩ := rr.some_of
        obtain ⟨key, v⟩ := q
        have h1' : p.1 = key := h1
        rw [h1'] at hy
        show PySem.W.KeqHits X.A.in1 s vb ((key, v) :: qs) (true && true)
        exact .hit hy (f.at I h2 ry hu1) (k fun p' hm => hp p' (List.mem_cons_of_mem _ hm))
    exact go ra hp
  · rw [show (!(va.length == vb.length && true)) = false from by rw [e]; simp]
    exact ⟨.bl false, H, I, rfl, q⟩
end
end Vf

set_option Elab.async false
set_option linter.all false
set_option maxRecDepth 100000
set_option maxHeartbeats 2000000
namespace Vf
open PySem PySem.Spec PyProof.Rows L2
/-! ### properties: their getters, found by the class and the name -/
def gAd (K : PySem.W.Frag) (c m : Str) : Addr := match PySem.W.recIn K (He.ma K (He.ga K c) m) "property" with
  | some (.ref f :: _) => f
  | _ => 0
structure GetD where
  cls : Str
  attr : Str
  d : He.DefD
def GetD.val (g : GetD) : He.FnW := g.d.val
def gnW (K : PySem.W.Frag) (g : GetD) : He.FnW := match K.lookup (gAd K g.cls g.attr) with
  | some ⟨_, _, .func fd, _⟩ => some (fd.name, fd.qualname, fd.params, fd.body, fd.scope, fd.globals, fd.closure, fd.builtins)
  | _ => none
def propB (K : PySem.W.Frag) (C : Addr) (m : Str) : Bool := He.eqO (PySem.W.findIn K (.ref C) m) (some (some (.ref (He.ma K C m)))) && (He.eqO (PySem.W.specialIn K (.ref (He.ma K C m)) "__get__") (some (some (.builtin "property.__get__"))) &&
  (decide (PySem.W.takesIn K (.ref (He.ma K C m)) = some true) && (match PySem.W.recIn K (He.ma K C m) "property" with
    | some (.ref _ :: _) => true
    | _ => false)))
def GetD.ok (K : PySem.W.Frag) (g : GetD) : Bool := propB K (He.ga K g.cls) g.attr && (PySem.W.keepIn K (.ref (gAd K g.cls g.attr)) && (match K.lookup (gAd K g.cls g.attr) with
  | some ⟨_, _, .func fd, _⟩ => PySem.W.codeIn K fd.code g.d.qual && (He.dflB K fd.defaults (g.d.dvs K) && He.kwdB K fd.kwdefaults (g.d.kws K))
  | _ => false))
theorem propB_ok {K : PySem.W.Frag} {c m : Str} (h : propB K (He.ga K c) m = true) : PropOf K (He.ga K c) m (He.ma K (He.ga K c) m) (gAd K c m) := by
  obtain ⟨h1, h⟩ := He.ba h
  obtain ⟨h2, h⟩ := He.ba h
  obtain ⟨h3, h4⟩ := He.ba h
  refine ⟨He.eqO_ok h1, He.eqO_ok h2, of_decide_eq_true h3, ?_⟩
  unfold gAd
  split at h4
  · rename_i f r e
    exact ⟨r, by rw [e]⟩
  · cases h4
theorem GetD.funD {K : PySem.W.Frag} {g : GetD} (e : gnW K g = g.d.val) (c : g.ok K = true) : (∃ fd, FunD K g.d.name g.d.qual g.d.params g.d.body g.d.scope (g.d.dvs K) (g.d.kws K) (gAd K g.cls g.attr) fd) ∧ PropOf K (He.ga K g.cls) g.attr (He.ma K (He.ga K g.cls) g.attr) (gAd K g.cls g.attr) := by
  obtain ⟨pr, c⟩ := He.ba c
  refine ⟨?_, propB_ok pr⟩
  obtain ⟨kp, c2⟩ := He.ba c
  unfold gnW at e
  cases q : K.lookup (gAd K g.cls g.attr) with
  | none =>
    rw [q] at c2
    cases c2
  | some o =>
    obtain ⟨oc, od, dt, osl⟩ := o
    rw [q] at c2 e
    cases dt with
    | func fd =>
      obtain ⟨n1, n2, n3, n4, n5, n6, n7, n8, n9, n10, n11, n12, n13, n14, n15⟩ := fd
      have e2 : (some (n1, n2, n3, n4, n5, n6, n7, n15) : He.FnW) = some (g.d.name, g.d.qual, g.d.params, .stmts g.d.body, g.d.scope, mainGlobals, [], builtinsNs) := e
      simp only [Option.some.injEq, Prod.mk.injEq] at e2
      obtain ⟨h1, h2, h3, h4, h5, h6, h7, h8⟩ := e2
      subst h1 h2 h3 h4 h5 h6 h7 h8
      have c3 : (PySem.W.codeIn K n13 g.d.qual && (He.dflB K n8 (g.d.dvs K) && He.kwdB K n9 (g.d.kws K))) = true := c2
      obtain ⟨k1, k2⟩ := He.ba c3
      obtain ⟨k3, k4⟩ := He.ba k2
      exact ⟨_, ⟨oc, od, n8, n9, n10, n11, n12, n13, n14, osl, rfl, q, k1, He.dflB_ok k3, He.kwdB_ok k4⟩, kp⟩
    | _ => cases c2
/-! ### the head's hook, with properties -/
abbrev AlP : Type := Bool × List He.FnW × List He.FnW
def obsP (ex : PySem.W.Frag → Bool) (fn : List He.DefD) (gs : List GetD) (K : PySem.W.Frag) : AlP := (ex K && ((fn.all fun d => d.ok K) && gs.all fun g => g.ok K), fn.map fun d => He.fnW K d.at_, gs.map (gnW K))
def SaysP (ex : PySem.W.Frag → Bool) (fn : List He.DefD) (gs : List GetD) (K : PySem.W.Frag) : Prop := obsP ex fn gs K = (true, fn.map He.DefD.val, gs.map GetD.val)
def obsPG (n : Nat) (ex : PySem.W.Frag → Bool) (fn : List He.DefD) (gs : List GetD) (g : Addr → Option Obj) : AlP := obsP ex fn gs (He.frG g (He.asD g n))
def hookP (n : Nat) (ex : PySem.W.Frag → Bool) (fn : List He.DefD) (gs : List GetD) : PySem.W.Hook where
  α := AlP
  obs := fun s => obsPG n ex fn gs s.heap.get?
  val := fun _ => (true, fn.map He.DefD.val, gs.map GetD.val)
  says := fun _ h => ∃ K : PySem.W.Frag, K.In h ∧ SaysP ex fn gs K
  of := fun _ _ e => ⟨_, He.frG_in, e⟩
  keeps := fun _ _ _ ⟨K, hK, c⟩ k => ⟨K, PySem.W.Frag.In.keeps hK k, c⟩
theorem obsPG_eq {n : Nat} {ex : PySem.W.Frag → Bool} {fn : List He.DefD} {gs : List GetD} {g : Addr → Option Obj} {s : Shared} (h : ∀ a, g a = s.heap.get? a) : obsPG n ex fn gs g = (hookP n ex fn gs).obs s := by
  have e : g = s.heap.get? := funext h
  rw [e]
  rfl
theorem SaysP.ex {ex : PySem.W.Frag → Bool} {fn : List He.DefD} {gs : List GetD} {K : PySem.W.Frag} (c : SaysP ex fn gs K) : ex K = true := (He.ba (congrArg (fun z : AlP => z.1) c)).1
theorem SaysP.fn {ex : PySem.W.Frag → Bool} {fn : List He.DefD} {gs : List GetD} {K : PySem.W.Frag} (c : SaysP ex fn gs K) (i : Nat) {d : He.DefD} (h : fn[i]? = some d := by rfl) : ∃ fd, FunD K d.name d.qual d.params d.body d.scope (d.dvs K) (d.kws K) (He.fAd K d.at_) fd := by
  have c2 := (He.ba (He.ba (congrArg (fun z : AlP => z.1) c)).2).1
  have e : fn.map (fun d => He.fnW K d.at_) = fn.map He.DefD.val := congrArg (fun z : AlP => z.2.1) c
  have e2 : He.fnW K d.at_ = d.val := by
    have e3 : (fn.map fun d => He.fnW K d.at_)[i]? = (fn.map He.DefD.val)[i]? := by rw [e]
    simp only [List.getElem?_map, h, Option.map_some] at e3
    exact Option.some.inj e3
  exact He.DefD.funD e2 (List.all_eq_true.mp c2 d (List.mem_of_getElem? h))
theorem SaysP.gt {ex : PySem.W.Frag → Bool} {fn : List He.DefD} {gs : List GetD} {K : PySem.W.Frag} (c : SaysP ex fn gs K) (i : Nat) {g : GetD} (h : gs[i]? = some g := by rfl) : (∃ fd, FunD K g.d.name g.d.qual g.d.params g.d.body g.d.scope (g.d.dvs K) (g.d.kws K) (gAd K g.cls g.attr) fd) ∧ PropOf K (He.ga K g.cls) g.attr (He.ma K (He.ga K g.cls) g.attr) (gAd K g.cls g.attr) := by
  have c2 := (He.ba (He.ba (congrArg (fun z : AlP => z.1) c)).2).2
  have e : (gs.map (gnW K)) = gs.map GetD.val := congrArg (fun z : AlP => z.2.2) c
  have e2 : gnW K g = g.val := by
    have e3 : (gs.map (gnW K))[i]? = (gs.map GetD.val)[i]? := by rw [e]
    simp only [List.getElem?_map, h, Option.map_some] at e3
    exact Option.some.inj e3
  exact GetD.funD e2 (List.all_eq_true.mp c2 g (List.mem_of_getElem? h))
/-- the getter keeps its promise -/
structure OkG (P : Program) (w : World) (K : PySem.W.Frag) (mg : Str → Option Value) (base : Heap) (CX : CXT) (k : Nat) (c m : Str) (sp : Sp) : Prop where
  ex : ∃ fd, FnOk P w K mg base CX k (gAd K c m) fd ["self"] sp ∧ Binds K fd ["self"] []
  pr : PropOf K (He.ga K c) m (He.ma K (He.ga K c) m) (gAd K c m)
theorem pe_propG {X : Cx} {k j : Nat} {c m : Str} {sp : Sp} {e : Expr} {pos : Pos} {ta : TE} (he : PE X e ta) (cl : Cls X.K (He.ga X.K c)) (O : OkG X.prog X.w X.K X.mg X.base CX0 k c m sp) (hr : Room j X.A) (hj : k + 1 ≤ j)
    (hab : attributeBase e m X.env (eval e X.env) = eval e X.env) : PE X (.Attribute e m pos) (tProp (He.ga X.K c) sp [] E0 ta) := by
  obtain ⟨fd, F, b⟩ := O.ex
  exact pe_prop he cl O.pr F (hr.mono hj) b .nil pass0 hab
end Vf

set_option Elab.async false
set_option linter.all false
set_option maxRecDepth 100000
set_option maxHeartbeats 2000000
namespace PySem.W
open PySem PySem.SeqAt MeetsSeq
section
variable {prog : Program} {w : World} {A : Around} {E : Value → Shared → Prop} {s : Shared} {a b : Addr} {o : Obj}
/-- a dict's slot declines what is no dict -/
theorem vf_dic_no {v : Value} {T : String} (ha : s.TypeIs (.ref a) "dict") (hT : s.TypeIs v T) (hs : isSubtype (.type T) (.type "dict") = pure false) {Q : Fin → Shared → Prop} (h : Q (.done (.ret .notImplemented)) s) : wpAny (model prog w) A (PySem.Builtin.«dict.__eq__» ⟨[.ref a, v], []⟩) Q E s := by
  wp_walk using wpAny_isInstance hT hs
  exact h
theorem vf_none_no {Q : Fin → Shared → Prop} (h : Q (.done (.ret .notImplemented)) s) : wpAny (model prog w) A (PySem.Builtin.«NoneType.__eq__» ⟨[.none, .ref a], []⟩) Q E s := by
  wp_walk
  exact h
theorem vf_int_no {v : Value} {es : Array DictEntry} {ep : Nat} (hv : (∃ c, v = .bool c) ∨ ∃ i t, v = .int i t) (ha : s.heap.get? a = some o) (hd : o.data = .dict es ep) {Q : Fin → Shared → Prop} (h : Q (.done (.ret .notImplemented)) s) : wpAny (model prog w) A (PySem.Builtin.«int.__eq__» ⟨[v, .ref a], []⟩) Q E s := by
  obtain ⟨hp, gg, d, tk, os⟩ := s
  obtain ⟨oc, odd, oda, osl⟩ := o
  dsimp only at hd
  subst hd
  rcases hv with ⟨c, rfl⟩ | ⟨i, t, rfl⟩
  · wp_walk using AutoSeq1.wpAny_loadPart' ha
    exact h
  · wp_walk using AutoSeq1.wpAny_loadPart' ha
    exact h
theorem vf_tup_no {T : String} (hT : s.TypeIs (.ref a) T) (hs : isSubtype (.type T) (.type "tuple") = pure false) {Q : Fin → Shared → Prop} (h : Q (.done (.ret .notImplemented)) s) : wpAny (model prog w) A (PySem.Builtin.«tuple.__eq__» ⟨[.ref b, .ref a], []⟩) Q E s := by
  wp_walk using wpAny_isInstance hT hs
  exact h
theorem vf_lst_no {T : String} (hT : s.TypeIs (.ref a) T) (hs : isSubtype (.type T) (.type "list") = pure false) {Q : Fin → Shared → Prop} (h : Q (.done (.ret .notImplemented)) s) : wpAny (model prog w) A (PySem.Builtin.«list.__eq__» ⟨[.ref b, .ref a], []⟩) Q E s := by
  wp_walk using wpAny_isInstance hT hs
  exact h
end
end PySem.W
namespace PySem.W
open PySem PySem.SeqAt MeetsSeq
/-- == answers no, asked either way -/
structure NoAt (A : Around) (s : Shared) (x y : Value) : Prop where
  rc : RcAt A s x y false
  eq : EqAt A s x y false
theorem eq_of_rc {A : Around} {s : Shared} {x y : Value} {b : Bool} (hxy : (x == y) = true → b = true) (hf : ∀ i t, x ≠ .float i t) (rc : RcAt A s x y b) : EqAt A s x y b := fun prog w E Q h => by
  unfold eqBool
  refine wpAny_holding ?_
  refine wpAny_ite_split (fun hab => ?_) (fun _ => ?_)
  · rw [hxy hab] at h
    first
      | exact wpAny_pure h
      | exact wpAny_bind (wpAny_rule (wpAny_pure h))
  · cases x with
    | float i t => exact absurd rfl (hf i t)
    | _ => exact wpAny_bind (rc prog w E _ (wpAny_truthy_bool h))
/-- both slots decline: not equal -/
theorem vf_no {A : Around} {s : Shared} {x y : Value} {Tx Ty idx idy : String} {Bx By : Builtin} (hx : s.TypeIs x Tx) (hy : s.TypeIs y Ty) (hne : (Value.type Tx != Value.type Ty) = true) (hxy : (x == y) = false) (hsub : isSubtype (.type Ty) (.type Tx) = pure false)
    (sx : Slot Tx (cmpInfo .Eq).2.1 idx) (sy : Slot Ty (cmpInfo .Eq).2.2 idy) (sy1 : Slot Ty (cmpInfo .Eq).2.1 idy) (ex : entryFor table idx = some Bx) (ey : entryFor table idy = some By) (ax : argsOk idx ⟨[x, y], []⟩) (ay : argsOk idy ⟨[y, x], []⟩)
    (bx : ∀ (prog : Program) (w : World) (A : Around) (E : Value → Shared → Prop) (Q : Fin → Shared → Prop), Q (.done (.ret .notImplemented)) s → wpAny (model prog w) A (Bx ⟨[x, y], []⟩) Q E s)
    (by_ : ∀ (prog : Program) (w : World) (A : Around) (E : Value → Shared → Prop) (Q : Fin → Shared → Prop), Q (.done (.ret .notImplemented)) s → wpAny (model prog w) A (By ⟨[y, x], []⟩) Q E s)
    (hs : ∀ (prog : Program) (w : World) (A : Around) (E : Value → Shared → Prop) (Q : Bool → Shared → Prop), Q false s → wpAny (model prog w) A (isSame x y) Q E s) (hf : ∀ i t, x ≠ .float i t) (hu : A.units < cLine) : NoAt A s x y := by
  have rc : RcAt A s x y false := fun prog w E Q h =>
    rc_eq_decline_or (k := false) hx hy hne hsub sx sy
      (fun _ hq => wpAny_call_entry sx hx ex (bx _ _ _ _ _ ⟨_, rfl, hq⟩) ax)
      (fun _ hq => wpAny_call_entry sy1 hy ey (by_ _ _ _ _ _ ⟨_, rfl, hq⟩) ay)
      (fun _ hq => hs _ _ _ _ _ hq) (.inr hu) h
  exact ⟨rc, eq_of_rc (fun z => absurd (z.symm.trans hxy) (by decide)) hf rc⟩
end PySem.W
namespace Vf
open PySem PySem.Spec PyProof.Rows L2 PySem.W
/-- == of two values: data, or a dict beside what is none, or two empty dicts -/
inductive EqW (K : PySem.W.Frag) (H : Hp) : V → V → Bool → Prop
  | dat {x y : V} {d e : PyData} : Dp K H x d → Dp K H y e → SeqAt.shaped d = true → SeqAt.shaped e = true → EqW K H x y (PyData.eqv d e)
  | dicL {y : V} {e : PyData} {a : Addr} {ks : List (Key × V)} : H a = some (.dK ks) → Dp K H y e → EqW K H (.ref a) y false
  | dicR {x : V} {d : PyData} {a : Addr} {ks : List (Key × V)} : Dp K H x d → H a = some (.dK ks) → EqW K H x (.ref a) false
  | dd {a b : Addr} : H a = some (.dK []) → H b = some (.dK []) → EqW K H (.ref a) (.ref b) true
section
variable {X : Cx} {pins : List (Addr × Obj)} {σ : L2.St} {H : Hp} {s : Shared}
theorem dic_obj (I : L2.Inv X pins σ H s) {a : Addr} {ks : List (Key × V)} (h : H a = some (.dK ks)) : ∃ o es ep, s.heap.get? a = some o ∧ o.cls = .type "dict" ∧ o.data = .dict es ep := by
  obtain ⟨_, _, vs, _, o, es, ep, h1, h2, h3, _⟩ := (show ObjOk X.prog X.w H s.heap _ (.dK _) from I.hok _ _ h)
  exact ⟨o, es, ep, h1, h2.1, h3⟩
theorem eqW_dicR (I : L2.Inv X pins σ H s) {A : Around} {x : V} {u : Value} {d : PyData} {a : Addr} {ks : List (Key × V)} (h : Dp X.K H x d) (ha : H a = some (.dK ks)) (rx : RelV x u) (hu : A.units < cLine) : NoAt A s u (.ref a) := by
  obtain ⟨o, es, ep, ho, hc, hd⟩ := dic_obj I ha
  have ta : s.TypeIs (.ref a) "dict" := ⟨o, ho, hc⟩
  cases h with
  | non =>
    cases rx
    exact vf_no (rfl : s.TypeIs .none "NoneType") ta (by decide) rfl PySem.F.sub_dict_NoneType PySem.F.slot_NoneType_eq PySem.F.slot_dict_eq_refl PySem.F.slot_dict_eq PySem.F.entry_NoneType_eq PySem.F.entry_dict_eq (PySem.F.args_NoneType_eq_2 _ _) (PySem.F.args_dict_eq_2 _ _)
      (fun _ _ _ _ _ q => vf_none_no q) (fun _ _ _ _ _ q => vf_dic_no (v := .none) (T := "NoneType") ta rfl PySem.F.sub_NoneType_dict q) (fun _ _ _ _ _ q => wpAny_of_eq (rfl : isSame .none (.ref a) = pure false) q) (fun _ _ z => nomatch z) hu
  | bl b =>
    cases rx
    exact vf_no (rfl : s.TypeIs (.bool b) "bool") ta (by decide) rfl PySem.F.sub_dict_bool PySem.F.slot_bool_eq PySem.F.slot_dict_eq_refl PySem.F.slot_dict_eq PySem.F.entry_int_eq PySem.F.entry_dict_eq (PySem.F.args_int_eq_2 _ _) (PySem.F.args_dict_eq_2 _ _)
      (fun _ _ _ _ _ q => vf_int_no (.inl ⟨_, rfl⟩) ho hd q) (fun _ _ _ _ _ q => vf_dic_no (v := .bool b) (T := "bool") ta rfl PySem.F.sub_bool_dict q) (fun _ _ _ _ _ q => wpAny_of_eq (rfl : isSame (.bool b) (.ref a) = pure false) q) (fun _ _ z => nomatch z) hu
  | int i =>
    obtain ⟨t, rfl⟩ := rx
    exact vf_no (rfl : s.TypeIs (.int i t) "int") ta (by decide) rfl PySem.F.sub_dict_int PySem.F.slot_int_eq PySem.F.slot_dict_eq_refl PySem.F.slot_dict_eq PySem.F.entry_int_eq PySem.F.entry_dict_eq (PySem.F.args_int_eq_2 _ _) (PySem.F.args_dict_eq_2 _ _)
      (fun _ _ _ _ _ q => vf_int_no (.inr ⟨_, _, rfl⟩) ho hd q) (fun _ _ _ _ _ q => vf_dic_no (v := .int i t) (T := "int") ta rfl PySem.F.sub_int_dict q) (fun _ _ _ _ _ q => wpAny_of_eq (rfl : isSame (.int i t) (.ref a) = pure false) q) (fun _ _ z => nomatch z) hu
  | str z =>
    obtain ⟨t, rfl⟩ := rx
    exact ⟨vf_rc_str_dict ho hc hd hu, vf_str_dict ho hc hd hu⟩
  | @lst l _ _ hs _ =>
    cases rx
    obtain ⟨its, r, p, _⟩ := I.list hs
    obtain ⟨ol, n, hl, hlc, hld, hlx⟩ := p
    have tl : s.TypeIs (.ref l) "list" := ⟨_, hl, hlc⟩
    have hne : l ≠ a := fun e => by
      rw [e, ho] at hl
      cases hl
      rw [hc] at hlc
      exact absurd hlc (by simp)
    exact vf_no tl ta (by decide) (by simpa using hne) PySem.F.sub_dict_list PySem.F.slot_list_eq PySem.F.slot_dict_eq_refl PySem.F.slot_dict_eq PySem.F.entry_list_eq PySem.F.entry_dict_eq (PySem.F.args_list_eq_2 _ _) (PySem.F.args_dict_eq_2 _ _)
      (fun _ _ _ _ _ q => vf_lst_no ta PySem.F.sub_dict_list q) (fun _ _ _ _ _ q => vf_dic_no ta tl PySem.F.sub_list_dict q) (fun _ _ _ _ _ q => SeqAt.wpAny_isSame_ref_other' hne hl ho (by rw [hc]; simp) q) (fun _ _ z => nomatch z) hu
  | @tup l _ _ hs _ =>
    cases rx
    obtain ⟨its, r, p, _⟩ := I.tuple hs
    obtain ⟨ol, hl, hlc, hld⟩ := p
    have tl : s.TypeIs (.ref l) "tuple" := ⟨_, hl, hlc⟩
    have hne : l ≠ a := fun e => by
      rw [e, ho] at hl
      cases hl
      rw [hc] at hlc
      exact absurd hlc (by simp)
    exact vf_no tl ta (by decide) (by simpa using hne) PySem.F.sub_dict_tuple PySem.F.slot_tuple_eq PySem.F.slot_dict_eq_refl PySem.F.slot_dict_eq PySem.F.entry_tuple_eq PySem.F.entry_dict_eq (PySem.F.args_tuple_eq_2 _ _) (PySem.F.args_dict_eq_2 _ _)
      (fun _ _ _ _ _ q => vf_tup_no ta PySem.F.sub_dict_tuple q) (fun _ _ _ _ _ q => vf_dic_no ta tl PySem.F.sub_tuple_dict q) (fun _ _ _ _ _ q => SeqAt.wpAny_isSame_ref_other' hne hl ho (by rw [hc]; simp) q) (fun _ _ z => nomatch z) hu
theorem eqW_dicL (I : L2.Inv X pins σ H s) {A : Around} {x : V} {u : Value} {d : PyData} {a : Addr} {ks : List (Key × V)} (h : Dp X.K H x d) (ha : H a = some (.dK ks)) (rx : RelV x u) (hu : A.units < cLine) : NoAt A s (.ref a) u := by
  obtain ⟨o, es, ep, ho, hc, hd⟩ := dic_obj I ha
  have ta : s.TypeIs (.ref a) "dict" := ⟨o, ho, hc⟩
  cases h with
  | non =>
    cases rx
    exact vf_no ta (show s.TypeIs .none "NoneType" from rfl) (by decide) rfl PySem.F.sub_NoneType_dict PySem.F.slot_dict_eq PySem.F.slot_NoneType_eq_refl PySem.F.slot_NoneType_eq PySem.F.entry_dict_eq PySem.F.entry_NoneType_eq (PySem.F.args_dict_eq_2 _ _) (PySem.F.args_NoneType_eq_2 _ _)
      (fun _ _ _ _ _ q => vf_dic_no (v := .none) (T := "NoneType") ta rfl PySem.F.sub_NoneType_dict q) (fun _ _ _ _ _ q => vf_none_no q) (fun _ _ _ _ _ q => wpAny_of_eq (rfl : isSame (.ref a) .none = pure false) q) (fun _ _ z => nomatch z) hu
  | bl b =>
    cases rx
    exact vf_no ta (show s.TypeIs (.bool b) "bool" from rfl) (by decide) rfl PySem.F.sub_bool_dict PySem.F.slot_dict_eq PySem.F.slot_bool_eq_refl PySem.F.slot_bool_eq PySem.F.entry_dict_eq PySem.F.entry_int_eq (PySem.F.args_dict_eq_2 _ _) (PySem.F.args_int_eq_2 _ _)
      (fun _ _ _ _ _ q => vf_dic_no (v := .bool b) (T := "bool") ta rfl PySem.F.sub_bool_dict q) (fun _ _ _ _ _ q => vf_int_no (.inl ⟨_, rfl⟩) ho hd q) (fun _ _ _ _ _ q => wpAny_of_eq (rfl : isSame (.ref a) (.bool b) = pure false) q) (fun _ _ z => nomatch z) hu
  | int i =>
    obtain ⟨t, rfl⟩ := rx
    exact vf_no ta (show s.TypeIs (.int i t) "int" from rfl) (by decide) rfl PySem.F.sub_int_dict PySem.F.slot_dict_eq PySem.F.slot_int_eq_refl PySem.F.slot_int_eq PySem.F.entry_dict_eq PySem.F.entry_int_eq (PySem.F.args_dict_eq_2 _ _) (PySem.F.args_int_eq_2 _ _)
      (fun _ _ _ _ _ q => vf_dic_no (v := .int i t) (T := "int") ta rfl PySem.F.sub_int_dict q) (fun _ _ _ _ _ q => vf_int_no (.inr ⟨_, _, rfl⟩) ho hd q) (fun _ _ _ _ _ q => wpAny_of_eq (rfl : isSame (.ref a) (.int i t) = pure false) q) (fun _ _ z => nomatch z) hu
  | str z =>
    obtain ⟨t, rfl⟩ := rx
    exact vf_no ta (show s.TypeIs (.str z t) "str" from rfl) (by decide) rfl PySem.F.sub_str_dict PySem.F.slot_dict_eq PySem.F.slot_str_eq_refl PySem.F.slot_str_eq PySem.F.entry_dict_eq PySem.F.entry_str_eq (PySem.F.args_dict_eq_2 _ _) (PySem.F.args_str_eq_2 _ _)
      (fun _ _ _ _ _ q => vf_dic_no (v := .str z t) (T := "str") ta rfl PySem.F.sub_str_dict q) (fun _ _ _ _ _ q => vf_no_str_dic ho hd q) (fun _ _ _ _ _ q => wpAny_of_eq (rfl : isSame (.ref a) (.str z t) = pure false) q) (fun _ _ z => nomatch z) hu
  | @lst l _ _ hs _ =>
    cases rx
    obtain ⟨its, r, p, _⟩ := I.list hs
    obtain ⟨ol, n, hl, hlc, hld, hlx⟩ := p
    have tl : s.TypeIs (.ref l) "list" := ⟨_, hl, hlc⟩
    have hne : a ≠ l := fun e => by
      rw [← e, ho] at hl
      cases hl
      rw [hc] at hlc
      exact absurd hlc (by simp)
    exact vf_no ta tl (by decide) (by simpa using hne) PySem.F.sub_list_dict PySem.F.slot_dict_eq PySem.F.slot_list_eq_refl PySem.F.slot_list_eq PySem.F.entry_dict_eq PySem.F.entry_list_eq (PySem.F.args_dict_eq_2 _ _) (PySem.F.args_list_eq_2 _ _)
      (fun _ _ _ _ _ q => vf_dic_no ta tl PySem.F.sub_list_dict q) (fun _ _ _ _ _ q => vf_lst_no ta PySem.F.sub_dict_list q) (fun _ _ _ _ _ q => wpAny_isSame_ref_other hne ho hl (by rw [hc]; simp) q) (fun _ _ z => nomatch z) hu
  | @tup l _ _ hs _ =>
    cases rx
    obtain ⟨its, r, p, _⟩ := I.tuple hs
    obtain ⟨ol, hl, hlc, hld⟩ := p
    have tl : s.TypeIs (.ref l) "tuple" := ⟨_, hl, hlc⟩
    have hne : a ≠ l := fun e => by
      rw [← e, ho] at hl
      cases hl
      rw [hc] at hlc
      exact absurd hlc (by simp)
    exact vf_no ta tl (by decide) (by simpa using hne) PySem.F.sub_tuple_dict PySem.F.slot_dict_eq PySem.F.slot_tuple_eq_refl PySem.F.slot_tuple_eq PySem.F.entry_dict_eq PySem.F.entry_tuple_eq (PySem.F.args_dict_eq_2 _ _) (PySem.F.args_tuple_eq_2 _ _)
      (fun _ _ _ _ _ q => vf_dic_no ta tl PySem.F.sub_tuple_dict q) (fun _ _ _ _ _ q => vf_tup_no ta PySem.F.sub_dict_tuple q) (fun _ _ _ _ _ q => wpAny_isSame_ref_other hne ho hl (by rw [hc]; simp) q) (fun _ _ z => nomatch z) hu
theorem EqW.run (I : L2.Inv X pins σ H s) {A : Around} {x y : V} {u v : Value} {b : Bool} (h : EqW X.K H x y b) (rx : RelV x u) (ry : RelV y v) (hu : A.units + 64 < cLine) :
    (∀ E Q : Value → Shared → Prop, Q (.bool b) s → wpAny (model X.prog X.w) A (richCompare .Eq u v) Q E s) ∧ SeqAt.EqP X.prog X.w A s u v b := by
  cases h with
  | dat h1 h2 sd se =>
    obtain ⟨as, r1⟩ := Dp.reads I _ x u h1 rx
    obtain ⟨bs, r2⟩ := Dp.reads I _ y v h2 ry
    exact ⟨fun E Q q => SeqAt.compareEq_shaped r1 r2 sd se hu q, (SeqAt.eqAt_reads _ _ A s u v as bs r1 r2 (SeqAt.canLay_of_shaped sd) (SeqAt.canLay_of_shaped se) (SeqAt.room_of_shaped sd hu)).eqP⟩
  | dicL h1 h2 =>
    cases rx
    have := eqW_dicL I (A := A) h2 h1 ry (by omega)
    exact ⟨this.rc X.prog X.w, this.eq.eqP⟩
  | dicR h1 h2 =>
    cases ry
    have := eqW_dicR I (A := A) h1 h2 rx (by omega)
    exact ⟨this.rc X.prog X.w, this.eq.eqP⟩
  | @dd a b h1 h2 =>
    cases rx
    cases ry
    obtain ⟨_, ya, va, ra, da⟩ := (show ObjOk X.prog X.w H s.heap a (.dK []) from I.hok a _ h1)
    obtain ⟨_, yb, vb, rb, db⟩ := (show ObjOk X.prog X.w H s.heap b (.dK []) from I.hok b _ h2)
    cases ra
    cases rb
    have rc : ∀ E Q : Value → Shared → Prop, Q (.bool true) s → wpAny (model X.prog X.w) A (richCompare .Eq (.ref a) (.ref b)) Q E s := fun E Q q =>
      PySem.W.rcP_dicts (knd := mixKind X.prog X.w) (r := true) ya yb da db (by omega) (fun _ => .nil) E Q q
    refine ⟨rc, ?_⟩
    by_cases e : a = b
    · subst e
      exact (SeqAt.EqAt.same _).eqP
    · exact SeqAt.eqP_refs e rc
/-- x == y of such values -/
def rEqW (K : PySem.W.Frag) : R2 := fun x y H Q => ∃ b, EqW K H x y b ∧ Q (.bl b) H
theorem op_eqW (hu : X.A.units + 64 < cLine) : OpR X (compareOp .Eq) (rEqW X.K) := by
  intro pins s σ H x y v u Q I rx ry h
  obtain ⟨b, h, q⟩ := h
  exact (h.run I rx ry hu).1 _ _ ⟨.bl b, H, I, rfl, q⟩
/-- in, not in: such values -/
def DW (K : PySem.W.Frag) : Eqb := fun x y H b => EqW K H x y b
theorem eqB_w {n : Nat} : EqB X n (DW X.K) := fun A pins s σ H x y u v b sb I rx ry hd => (hd.run I rx ry sb.room.units).2 _ _ ⟨rfl, H, I, Ext.rfl'⟩
mutual
theorem Dp_ext {K : PySem.W.Frag} {H H' : Hp} (sm : Same H H') : ∀ (d : PyData) (x : V), Dp K H x d → Dp K H' x d
  | _, _, .non => .non
  | _, _, .bl b => .bl b
  | _, _, .int i => .int i
  | _, _, .str z => .str z
  | .list ds, _, .lst h hs => .lst (sm.seq h) (DpAll_ext sm ds _ hs)
  | .tuple ds, _, .tup h hs => .tup (SqT.ext h sm) (DpAll_ext sm ds _ hs)
theorem DpAll_ext {K : PySem.W.Frag} {H H' : Hp} (sm : Same H H') : ∀ (ds : List PyData) (xs : List V), DpAll K H xs ds → DpAll K H' xs ds
  | _, _, .nil => .nil
  | d :: ds, _, .cons h hs => .cons (Dp_ext sm d _ h) (DpAll_ext sm ds _ hs)
end
theorem EqW.ext {K : PySem.W.Frag} {H H' : Hp} (sm : Same H H') {x y : V} {b : Bool} (h : EqW K H x y b) : EqW K H' x y b := by
  cases h with
  | dat h1 h2 sd se => exact .dat (Dp_ext sm _ _ h1) (Dp_ext sm _ _ h2) sd se
  | dicL h1 h2 => exact .dicL (sm _ _ h1) (Dp_ext sm _ _ h2)
  | dicR h1 h2 => exact .dicR (Dp_ext sm _ _ h1) (sm _ _ h2)
  | dd h1 h2 => exact .dd (sm _ _ h1) (sm _ _ h2)
end
end Vf

set_option Elab.async false
set_option linter.all false
set_option maxRecDepth 100000
set_option maxHeartbeats 2000000
/-! try with several clauses that bind their error; over the library's readings of one clause and of clauses without names. -/
namespace Vf
open PySem PySem.Spec PyProof.Rows L2
abbrev Clause : Type := Value × Nat × (Addr → Value → Option Addr → TS)
/-- the ends of a clause: its name goes -/
def goneE (i : Nat) (D : Ends) : Ends := { nx := fun τ G => D.nx (τ.set i none) G, rt := D.rt, bk := fun τ G => D.bk (τ.set i none) G, ct := fun τ G => D.ct (τ.set i none) G }
def wClauses (K : PySem.W.Frag) (Wout : WX) (D : Ends) : List Clause → WX
  | [] => Wout
  | (c, i, ts) :: r => fun cls d τ G => ∃ t, PySem.W.exmOne K cls c = some t ∧ (t = true → ∀ a, G a = none → ts a cls d (goneE i D) (τ.set i (some (.ref a))) G) ∧ (t = false → wClauses K Wout D r cls d τ G)
inductive Clauses (X : Cx) : List ExceptHandler → List Clause → Prop
  | nil : Clauses X [] []
  | cons {x n : Str} {c : Value} {i : Nat} {ts : Addr → Value → Option Addr → TS} {b₀ : Stmt} {suite : List Stmt} {np np' : Pos} {hds : List ExceptHandler} {l : List Clause} (hi : X.N[i]? = some n) (hl : X.env.kindOf n = some .local) (hc : Names X x c)
      (hsu : ∀ (a : Addr) (oe : Obj) (cls : Value) (d : Option Addr) (pn : List (Addr × Obj)), Zc cls d oe → (∃ vs, oe.data = .fields vs) → PSs (X.suite a ((a, oe) :: pn)) (b₀ :: suite) (ts a cls d)) (r : Clauses X hds l) :
      Clauses X (.ExceptHandler (some (.Name x np)) (some n) (b₀ :: suite) np' :: hds) ((c, i, ts) :: l)
section
variable {X : Cx} {body : List Stmt} {h₀ : ExceptHandler} {hds : List ExceptHandler} {l : List Clause} {pos : Pos} {tb : WX → TS} {Wout : WX}
theorem ps_try_clauses (hst : X.stack = X.env :: X.outer) (hfr0 : X.env.frame = some X.env.locals) (hN : X.N.Nodup) (tk : Takes X Wout)
    (hb : ∀ (W : WX) (pn : List (Addr × Obj)) (xe : Value → Shared → Prop), Takes (X.tr pn xe) W → PassesOwn (model X.prog X.w) X.A X.env xe → PSs (X.tr pn xe) body (tb W))
    (hh : Clauses X (h₀ :: hds) l) : PS X (.Try body (h₀ :: hds) [] [] pos) (fun D σ H => tb (wClauses X.K Wout D l) D σ H) := by
  refine ⟨fun pins s σ H D I hyp => ?_⟩
  have iok := I.ok
  have hframes : X.A.frames = some (X.env :: X.outer) := by rw [iok.frames, hst]
  refine wpAny_Try_except (wpAny_mono ((hb (wClauses X.K Wout D l) (X.pn ++ pins) (fun er t1 => wpAny (model X.prog X.w) X.A (noteFrame er X.env) (fun _ t2 => wpAny (model X.prog X.w) X.A (setFlight er none) (fun _ t3 =>
    wpAny (model X.prog X.w) X.A (handleBy er X.env (h₀ :: hds)) (SP X pins D) X.xe t3) X.xe t2) X.xe t1) (fun u s' air => ?_) PassesOwn.looking).run [] s σ H D (I.toTry _) hyp) (fun fl t1 done => ?_) (fun er t1 q => q))
  · obtain ⟨a, B, sI, pins', τ, G, cls, d, rfl, Ja, newB, upA, sky, gNone, osEq, bare, wish⟩ := air
    have Jb : Inv X pins τ G sI := Ja.ofTry iok
    have skyB : Sky B (X.env :: X.outer) a (Zc cls d) X.env.locals s'.heap := by rw [← hst]; exact sky
    show wpAny (model X.prog X.w) X.A (noteFrame (.ref a) X.env) _ _ _
    refine Sky.land Zc.steady hframes hfr0 skyB fun hp3 fly3 up3 => ?_
    have J3 : Inv X pins τ G { s' with heap := hp3 } := Jb.landed newB fly3.1 (upA.trans up3) osEq bare
    obtain ⟨o3, w3, there3, zc3, dat3⟩ := fly3.there
    have off : a ∉ frs (X.env :: X.outer) := fun hm => by
      obtain ⟨_, o', e', hno⟩ := fly3.2.2.1.mem hm
      rw [there3] at e'
      cases e'
      exact hno _ dat3
    have offL : a ≠ X.env.locals := fun z => off (List.mem_filterMap.mpr ⟨X.env, List.mem_cons_self, by rw [hfr0, z]⟩)
    have offF : a ∉ X.fs := fun hm => by
      obtain ⟨en, hen, q⟩ := List.mem_filterMap.mp hm
      exact off (List.mem_filterMap.mpr ⟨en, List.mem_cons_of_mem _ hen, q⟩)
    have S3 := J3.suite there3 dat3 gNone offL offF
    have walk : ∀ {hs2 : List ExceptHandler} {l2 : List Clause}, Clauses X hs2 l2 → wClauses X.K Wout D l2 cls d τ G → wpAny (model X.prog X.w) X.A (handleBy (.ref a) X.env hs2) (SP X pins D) X.xe { s' with heap := hp3 } := by
      intro hs2 l2 hk
      induction hk with
      | nil =>
        intro out
        refine wpAny_handleBy_nil ?_
        obtain ⟨_, _, _, oe, vs, T, oT, _, there, zc, dat, v1, _⟩ := id fly3
        unfold PySem.passOn
        refine wpAny_bind (wpAny_field there dat v1 ?_)
        rw [if_neg (by simp : ¬ ((Value.ref T == Value.none) = true))]
        have last : wpAny (model X.prog X.w) X.A (setFlight (.ref a) X.env.frame) (fun _ t4 => wpAny (model X.prog X.w) X.A (throw (.ref a) : Sem Flow) (SP X pins D) X.xe t4) X.xe { s' with heap := hp3 } := by
          rw [hfr0]
          refine HandSPX.setFlight_upZ fly3 fun hp4 fly4 up4 => wpAny_throw (tk _ _ ⟨a, B, sI, pins, τ, G, cls, d, rfl, Jb, newB, (upA.trans up3).trans up4, .inr (.inr (by rw [hst]; exact fly4)), gNone, osEq, bare, out⟩)
        first
          | exact wpAny_bind (wpAny_pure (wpAny_bind last))
          | exact wpAny_bind last
      | @cons x n c i ts b₀ suite np np' hds2 l2 hi hl hc hsu r ih =>
        rintro ⟨t, et, yes, no⟩
        refine wpAny_handleBy_cons (codeAny_handlers_test ?_) (by intro q; cases q)
        have look : PySem.W.Looks (model X.prog X.w) hp3 (typeOf (.ref a)) cls := fun A Q E t keep q => wpAny_typeOf_ref (keep _ _ there3) (by rw [zc3.1]; exact q)
        have match_ := PySem.W.exm_one (M := model X.prog X.w) (J3.kIn) look et
        have name : ∀ {Q E : Value → Shared → Prop}, Q c { s' with heap := hp3 } → wpAny (model X.prog X.w) (X.A.mark (some (.ref a))) (eval (.Name x np) X.env) Q E { s' with heap := hp3 } := fun {Q E} q => by
          obtain ⟨g1, g2, g3 | ⟨g3, g4, g5⟩⟩ := hc
          · exact ld_glob (X := X.suite a ((a, o3) :: (X.pn ++ pins))) S3 g1 g3 q g2
          · exact ld_blt (X := X.suite a ((a, o3) :: (X.pn ++ pins))) S3 g1 g3 g4 q g5 g2
        refine name (match_.here ?_)
        cases t with
        | false =>
          show wpAny _ X.A (handleBy (.ref a) X.env hds2) _ _ _
          exact ih (no rfl)
        | true =>
          refine codeAny_handlers_suite_as (HandSPX.lands_againZ fly3 fun hp4 fly4 up4 => ?_)
          have J4 : Inv X pins τ G { s' with heap := hp4 } := Jb.landed newB fly4.1 ((upA.trans up3).trans up4) osEq bare
          obtain ⟨o4, w4, there4, zc4, dat4⟩ := fly4.there
          refine store_ok (X := X.suite a ((a, o4) :: (X.pn ++ pins))) (v := .ref a) (J4.suite there4 dat4 gNone offL offF) hN hi (.inl hl) rfl (fun t5 S5 => ?_) (.inr hl)
          refine wpAny_mono ((hsu a o4 cls d (X.pn ++ pins) zc4 ⟨_, dat4⟩).run [] t5 _ G _ S5 (yes rfl a gNone)) (fun fl t6 done => ?_) (fun _ _ z => False.elim z)
          have bye : ∀ {τ6 : L2.St} {G6 : Hp} {Q : Shared → Prop}, Inv (X.suite a ((a, o4) :: (X.pn ++ pins))) [] τ6 G6 t6 → (∀ t7, Inv X pins (τ6.set i none) G6 t7 → Q t7) →
              wpAny (model X.prog X.w) X.A (do bindName X.env n .none; unbindBehindTheSuite X.env n np') (fun _ t7 => Q t7) X.xe t6 := fun {τ6 G6 Q} S6 q => gone_ok (S6.unsuite iok) hN hi hl q
          cases fl with
          | ret u =>
            obtain ⟨v6, τ6, G6, S6, r6, q6⟩ := done
            exact bye S6 fun t7 J7 => ⟨_, _, _, J7, r6, q6⟩
          | _ =>
            obtain ⟨τ6, G6, S6, q6⟩ := done
            exact bye S6 fun t7 J7 => ⟨_, _, J7, q6⟩
    exact walk hh wish
  · cases fl with
    | ret u =>
      obtain ⟨v, τ, G, Ja, rv, q⟩ := done
      exact ⟨v, τ, G, Ja.ofTry iok, rv, q⟩
    | next =>
      obtain ⟨τ, G, Ja, q⟩ := done
      exact wpAny_execs_nil ⟨τ, G, Ja.ofTry iok, q⟩
    | _ =>
      obtain ⟨τ, G, Ja, q⟩ := done
      exact ⟨τ, G, Ja.ofTry iok, q⟩
end
end Vf

set_option Elab.async false
set_option linter.all false
set_option maxRecDepth 100000
set_option maxHeartbeats 2000000
namespace Vf
open PySem PySem.Spec PyProof.Rows L2
section
variable {X : Cx}
/-- xs.count(y), flat items -/
def rCntV (K : PySem.W.Frag) : V → List V → Hp → VK → Prop := fun x xs H Q => ∃ (p : Addr) (ys : List V) (y : V), x = .ref p ∧ xs = [y] ∧ SqL K H p ys ∧ flatV y = true ∧ ys.all flatV = true ∧ Q (.int ((ys.countP fun z => eqV z y : Nat) : Int)) H
theorem count_answ (e : V → Bool) : ∀ {xs : List V} {us : List Value}, Vals xs us → us.countP (answ e) = xs.countP e
  | _, _, .nil => rfl
  | _, _, .cons r t => by
    rw [List.countP_cons, List.countP_cons, answ_of e r, count_answ e t]
theorem mt_lcountV : MtR X "list.count" (rCntV X.K) := by
  intro pins s σ H x xs v us Q I rx rxs h
  obtain ⟨p, ys, y, rfl, rfl, hs, fy, fs, q⟩ := h
  cases rx
  obtain ⟨u, rfl, ru⟩ := rxs.one
  obtain ⟨its, rv, ⟨⟨cls, dd, data, sl⟩, n, ho, hc, hdn, hd⟩, hlen⟩ := I.list hs
  simp only at hc hd
  subst hc hd
  refine call_meets PySem.F.slot_list_count ⟨_, ho, rfl⟩ PySem.F.entry_list_count (PySem.F.args_list_count_2 _ _)
    (SeqAt.list_countAt p its.toArray n dd sl u (answ fun z => eqV z y)) ⟨ho, fun w hw => ?_, ?_⟩
  · obtain ⟨z, hz, rz⟩ := vals_mem rv (by simpa using hw)
    rw [answ_of _ rz]
    exact eqAt_V rz ru (List.all_eq_true.mp fs z hz) fy
  · have ec : its.toArray.toList.countP (answ fun z => eqV z y) = ys.countP fun z => eqV z y := count_answ _ rv
    refine ⟨.int ((ys.countP fun z => eqV z y : Nat) : Int), H, I.tok _, ⟨s.toks, ?_⟩, q⟩
    show Value.int ((its.toArray.toList.countP (answ fun z => eqV z y) : Nat) : Int) s.toks = Value.int ((ys.countP fun z => eqV z y : Nat) : Int) s.toks
    rw [ec]
/-! ### readings over a given K -/
theorem mt_lcountVK {K : PySem.W.Frag} (h : X.K = K) : MtR X "list.count" (rCntV K) := h ▸ mt_lcountV
theorem sl_listK {K : PySem.W.Frag} (h : X.K = K) : SlR X (rSlL K) := h ▸ sl_list
theorem sl_tupK {K : PySem.W.Frag} (h : X.K = K) : SlR X (rSlT K) := h ▸ sl_tup
theorem op_in_seqK {K : PySem.W.Frag} (hK : X.K = K) : OpR X (compareOp .In) (rIn K false) := hK ▸ op_in_seq
theorem op_notIn_seqK {K : PySem.W.Frag} (hK : X.K = K) : OpR X (compareOp .NotIn) (rIn K true) := hK ▸ op_notIn_seq
theorem op_notInIK {K : PySem.W.Frag} (hK : X.K = K) (hu : X.A.units + 64 < cLine) : OpR X (compareOp .NotIn) (rNotInI K) := hK ▸ op_notInI hu
theorem op_inBK {K : PySem.W.Frag} {n : Nat} (hK : X.K = K) (hr : Room (n + 1) X.A) : OpR X (compareOp .In) (rInB K false (DW K)) := hK ▸ op_inB (n := n) eqB_w hr
end
section
variable {X : Cx} {o e : Expr} {es : List Expr} {to : TE} {t : TA} {name : Str} {apos cpos : Pos} {T id : String} {r : V → List V → Hp → VK → Prop}
theorem pe_bmK {K : PySem.W.Frag} (hK : X.K = K) (pa : PlainAttrs T) (slot : Slot T name id) (hty : typeOf (.builtin id) = pure (.type "method_descriptor")) (hm : MtR X id r) (ho : PE X o to) (ha : PA X (e :: es) t)
    (hbase : attributeBase o name X.env (eval o X.env) = eval o X.env := by rfl)
    (hfew : ((backTo cpos (starEach (e :: es) X.env)).all (fun x => !x.1) && (backToKw cpos (keywordEach [] X.env)).all (fun x => x.1.isSome)
      && decide ((e :: es).length + ([] : List Keyword).length + (if ([] : List Keyword).isEmpty then 0 else 1) < 30)) = true := by rfl)
    (hline : (apos.endLine == cpos.line) = true := by rfl) (hs : starEach (e :: es) X.env = (false, eval e X.env) :: starEach es X.env := by rfl) (hplain : (backTo cpos (starEach es X.env)).any (·.1) = false := by rfl) :
    PE X (.Call (.Attribute o name apos) (e :: es) [] cpos) (tBM K T r to t) := hK ▸ pe_bm pa slot hty hm ho ha hbase hfew hline hs hplain
end
/-! ### a comprehension of two walks -/
theorem lc2_it {J : It} {n : Nat} {G : Hp → Prop} {Y : Nat → Hp → V → Hp → Prop} (w : Walk J n G Y) {g g1 : TG} {tt tt1 : TT} {wi1 : TI} {te : TE} {vs vs1 : List Nat} {σ : L2.St} {H1 : Hp} {D : Addr} {Qd : Hp → Prop} (Pv : Nat → Hp → Prop) (h0 : Pv 0 (upd H1 D (.lst []))) (hG : ∀ i H, i ≤ n → Pv i H → G H)
    (hs : ∀ i x H H', i < n → Pv i H → Y i H x H' → g x (wipe σ vs) H' fun σ2 H2 => wipe σ2 vs = wipe σ vs ∧ tt σ2 H2 fun b H3 =>
      if b = true then wi1 σ2 H3 fun J1 H4 => ∃ W1 : Nat → Nat → Hp → Prop, (∃ m, W1 0 m H4) ∧ ∀ j k H, W1 j k H →
        (J1.stop j H ∧ Pv (i + 1) H) ∨ (J1.go j H ∧ ∃ Nx1 : Hp → Prop, (∀ H', Nx1 H' → ∃ k', k' < k ∧ W1 (j + 1) k' H') ∧ ∀ x H', J1.yld j H x H' → g1 x (wipe σ2 vs1) H' fun σ3 H5 => wipe σ3 vs1 = wipe σ2 vs1 ∧ tt1 σ3 H5 fun b H6 =>
          if b = true then te σ3 H6 fun y H7 => ∃ acc, H7 D = some (.lst acc) ∧ acc.length < sizeLine ∧ Nx1 (upd H7 D (.lst (acc ++ [y]))) else Nx1 H6)
      else Pv (i + 1) H3) (hd : ∀ H, Pv n H → Qd H) :
    ∃ W : Nat → Nat → Hp → Prop, (∃ m, W 0 m (upd H1 D (.lst []))) ∧ ∀ i m H, W i m H →
      (J.stop i H ∧ Qd H) ∨ (J.go i H ∧ ∃ Nx : Hp → Prop, (∀ H', Nx H' → ∃ m', m' < m ∧ W (i + 1) m' H') ∧ ∀ x H', J.yld i H x H' → g x (wipe σ vs) H' fun σ2 H2 => wipe σ2 vs = wipe σ vs ∧ tt σ2 H2 fun b H3 =>
        if b = true then wi1 σ2 H3 fun J1 H4 => ∃ W1 : Nat → Nat → Hp → Prop, (∃ m, W1 0 m H4) ∧ ∀ j k H, W1 j k H →
          (J1.stop j H ∧ Nx H) ∨ (J1.go j H ∧ ∃ Nx1 : Hp → Prop, (∀ H', Nx1 H' → ∃ k', k' < k ∧ W1 (j + 1) k' H') ∧ ∀ x H', J1.yld j H x H' → g1 x (wipe σ2 vs1) H' fun σ3 H5 => wipe σ3 vs1 = wipe σ2 vs1 ∧ tt1 σ3 H5 fun b H6 =>
            if b = true then te σ3 H6 fun y H7 => ∃ acc, H7 D = some (.lst acc) ∧ acc.length < sizeLine ∧ Nx1 (upd H7 D (.lst (acc ++ [y]))) else Nx1 H6)
        else Nx H3) := by
  refine ⟨fun i m H => m = n - i ∧ i ≤ n ∧ Pv i H, ⟨n, by simp, Nat.zero_le _, h0⟩, ?_⟩
  rintro i m H ⟨rfl, hi, p⟩
  have q := hG i H hi p
  by_cases hlt : i < n
  · exact .inr ⟨w.goes i H hlt q, Pv (i + 1), fun H' p' => ⟨n - (i + 1), by omega, rfl, hlt, p'⟩, fun x H' y => hs i x H H' hlt p (w.yields i H x H' hlt q y)⟩
  · have e : i = n := by omega
    subst e
    exact .inl ⟨w.stops H q, hd H p⟩
/-- its inner walk -/
theorem lc2_in {J1 : It} {n : Nat} {G : Hp → Prop} {Y : Nat → Hp → V → Hp → Prop} (w : Walk J1 n G Y) {g1 : TG} {tt1 : TT} {te : TE} {vs1 : List Nat} {σ2 : L2.St} {H4 : Hp} {D : Addr} {Qd : Hp → Prop} (Pv : Nat → Hp → Prop) (h0 : Pv 0 H4) (hG : ∀ i H, i ≤ n → Pv i H → G H)
    (hs : ∀ i x H H', i < n → Pv i H → Y i H x H' → g1 x (wipe σ2 vs1) H' fun σ3 H5 => wipe σ3 vs1 = wipe σ2 vs1 ∧ tt1 σ3 H5 fun b H6 =>
      if b = true then te σ3 H6 fun y H7 => ∃ acc, H7 D = some (.lst acc) ∧ acc.length < sizeLine ∧ Pv (i + 1) (upd H7 D (.lst (acc ++ [y]))) else Pv (i + 1) H6) (hd : ∀ H, Pv n H → Qd H) :
    ∃ W1 : Nat → Nat → Hp → Prop, (∃ m, W1 0 m H4) ∧ ∀ j k H, W1 j k H →
      (J1.stop j H ∧ Qd H) ∨ (J1.go j H ∧ ∃ Nx1 : Hp → Prop, (∀ H', Nx1 H' → ∃ k', k' < k ∧ W1 (j + 1) k' H') ∧ ∀ x H', J1.yld j H x H' → g1 x (wipe σ2 vs1) H' fun σ3 H5 => wipe σ3 vs1 = wipe σ2 vs1 ∧ tt1 σ3 H5 fun b H6 =>
        if b = true then te σ3 H6 fun y H7 => ∃ acc, H7 D = some (.lst acc) ∧ acc.length < sizeLine ∧ Nx1 (upd H7 D (.lst (acc ++ [y]))) else Nx1 H6) := by
  refine ⟨fun i m H => m = n - i ∧ i ≤ n ∧ Pv i H, ⟨n, by simp, Nat.zero_le _, h0⟩, ?_⟩
  rintro i m H ⟨rfl, hi, p⟩
  have q := hG i H hi p
  by_cases hlt : i < n
  · exact .inr ⟨w.goes i H hlt q, Pv (i + 1), fun H' p' => ⟨n - (i + 1), by omega, rfl, hlt, p'⟩, fun x H' y => hs i x H H' hlt p (w.yields i H x H' hlt q y)⟩
  · have e : i = n := by omega
    subst e
    exact .inl ⟨w.stops H q, hd H p⟩
/-! ### name = {..: .. for ..} on one line -/
section
variable {X : Cx}
theorem sw_trueD {kx vx : Expr} {gs : List Comprehension} {scope : Scope} {pos py : Pos} {y : Str} {l : Nat} {env : Env} (hk : env.scope.kind = .function) (hy : env.scope.names.lookup y = some .local) (hl : (py.line == pos.line) = true)
    (ha : (scope.names.any fun (n, k) => n == y && (k == .local || k == .cell)) = false) : swapsWith (.DictComp kx vx gs scope pos) (some (.Name y py)) l env = pure true := by
  have ky : env.kindOf y = some .local := hy
  have hb : env.blockKind = .function := by unfold Env.blockKind; rw [hk]; rfl
  unfold swapsWith
  simp only [hb, ky, ha, Expr.pos, hl]
  rfl
theorem ps_setDc {i : Nat} {y : Str} {py : Pos} {kx vx tg iter : Expr} {ifs : List Expr} {scope : Scope} {own : List (Str × Nat)} {pos spos : Pos} {wi : TI} {g : TG} {tt : TT} {tk tv : TE} (hc : X.calm = true) (hN : X.N.Nodup) (hy : X.N[i]? = some y) (hyl : X.env.scope.names.lookup y = some .local)
    (hsw : swapsWith (.DictComp kx vx [⟨tg, iter, ifs, 0⟩] scope pos) (some (.Name y py)) spos.line X.env = pure true) (hi : PI X tg iter wi) (ok : BlkOk X.N X.env.scope scope own)
    (hg : ∀ (s : Shared) (H : Hp) (C : Addr) (cl : List (Str × Addr)) (fp : List Addr), PG (X.blk s H scope (compEnvC scope cl C X.env) fp) tg g) (ht : ∀ (s : Shared) (H : Hp) (C : Addr) (cl : List (Str × Addr)) (fp : List Addr), PTs (X.blk s H scope (compEnvC scope cl C X.env) fp) ifs tt)
    (hk : ∀ (s : Shared) (H : Hp) (C : Addr) (cl : List (Str × Addr)) (fp : List Addr), PE (X.blk s H scope (compEnvC scope cl C X.env) fp) kx tk)
    (he : ∀ (s : Shared) (H : Hp) (C : Addr) (cl : List (Str × Addr)) (fp : List Addr), PE (X.blk s H scope (compEnvC scope cl C X.env) fp) vx tv) (hs : ∀ x, foldedSetIterable iter X.env x = pure x := by intro _; rfl) :
    PS X (.Assign [.Name y py] (.DictComp kx vx [⟨tg, iter, ifs, 0⟩] scope pos) spos) (tAsg (tDc wi g tt tk tv (own.map (·.2))) (gName i)) := by
  refine ⟨fun pins s σ H D I h => ?_⟩
  rw [PySem.exec_Assign_Name_used _ _ _ _ hsw]
  refine wpAny_bind (wpAny_standAt (wpAny_bind ?_))
  show wpAny _ X.A (do let _ ← comprehension (.DictComp kx vx [⟨tg, iter, ifs, 0⟩] scope pos) scope X.env (firstIterPos [⟨tg, iter, ifs, 0⟩] pos) newDict false (eval iter X.env) (some (assign (.Name y py) X.env))) _ _ s
  have h : tDc wi g tt tk tv (own.map (·.2)) σ H (fun x H1 => gName i x σ H1 D.nx) := h
  refine wpAny_bind (thn (dc_core (Qf := fun _ s' => SP X pins D .next s') hc hN I hi ok hg ht hk he hs h fun L C s' m H' I' q hn f => ?_) fun _ s' hq => wpAny_pure (wpAny_pure hq))
  show wpAny _ _ (assign (.Name y py) X.env (.ref L)) _ _ _
  refine wpAny_assign_Name (store_ok2 (v := V.ref L) I' hN hy (.inl hyl) rfl (fun s2 I2 ⟨a, sb, ha⟩ => ?_) (.inr hyl))
  obtain ⟨f0, f1, f2, f3, f4, f5⟩ := f
  have haC : C ≠ a := by
    rcases ha with z | z
    · rw [z]; exact f1
    · exact fun e => f4 y a z e.symm
  refine ⟨m, hn.sameBut sb haC, fun h3 sb3 => ?_⟩
  exact ⟨_, H', I2.turned (t' := s2.toks) (fun b o hb e => (sb3.2 b hb).trans e) f0 f1 f3 f4 f5, q⟩
end
end Vf

set_option Elab.async false
set_option linter.all false
set_option maxRecDepth 100000
set_option maxHeartbeats 2000000
namespace Vf
open PySem PySem.Spec PyProof.Rows L2
/-! ### and, or: one way on, whatever the parts answer -/
section
variable {X : Cx} {e a b : Expr} {rest : List Expr} {pos : Pos}
def tWk (t : TE) : TE := fun σ H Q => ∃ R : VK, t σ H R ∧ ∀ v H', R v H' → Q v H'
def tTWk (t : TT) : TT := fun σ H Q => ∃ R : Bool → Hp → Prop, t σ H R ∧ ∀ c H', R c H' → Q c H'
theorem pe_weak {t : TE} (h : PE X e t) : PE X e (tWk t) := ⟨fun pins s σ H Q I ⟨R, h1, k⟩ =>
  PySem.wpAny_mono (h.run pins s σ H R I h1) (fun v s' ⟨x, H', I', r, q⟩ => ⟨x, H', I', r, k _ _ q⟩) fun _ _ z => z⟩
theorem pt_weak {t : TT} (h : PT X e t) : PT X e (tTWk t) := ⟨fun pins s σ H Q I ⟨R, h1, k⟩ =>
  PySem.wpAny_mono (h.run pins s σ H R I h1) (fun v s' ⟨H', I', q⟩ => ⟨H', I', k _ _ q⟩) fun _ _ z => z⟩
theorem pw_weak {t : TT} (h : PW X e t) : PW X e (tTWk t) := ⟨fun wh pins s σ H Q I ⟨R, h1, k⟩ =>
  PySem.wpAny_mono (h.run wh pins s σ H R I h1) (fun v s' ⟨H', I', q⟩ => ⟨H', I', k _ _ q⟩) fun _ _ z => z⟩
def tAndB (t u : TT) : TT := fun σ H Q => t σ H fun c H1 => ∃ (d : Bool) (R : Hp → Prop), (c = true → u σ H1 fun b H2 => b = d ∧ R H2) ∧ (c = false → R H1) ∧ ∀ H2, R H2 → Q (c && d) H2
def tOrB (t u : TT) : TT := fun σ H Q => t σ H fun c H1 => ∃ (d : Bool) (R : Hp → Prop), (c = false → u σ H1 fun b H2 => b = d ∧ R H2) ∧ (c = true → R H1) ∧ ∀ H2, R H2 → Q (c || d) H2
def tAndVB (t u : TE) : TE := fun σ H Q => t σ H fun x H1 => ∃ (c d : Bool) (R : Hp → Prop), x = .bl c ∧ (c = true → u σ H1 fun b H2 => b = .bl d ∧ R H2) ∧ (c = false → R H1) ∧ ∀ H2, R H2 → Q (.bl (c && d)) H2
def tOrVB (t u : TE) : TE := fun σ H Q => t σ H fun x H1 => ∃ (c d : Bool) (R : Hp → Prop), x = .bl c ∧ (c = false → u σ H1 fun b H2 => b = .bl d ∧ R H2) ∧ (c = true → R H1) ∧ ∀ H2, R H2 → Q (.bl (c || d)) H2
theorem pw_andB {t u : TT} (ha : PT X a t) (hb : PW X (.BoolOp .And (b :: rest) pos) u) : PW X (.BoolOp .And (a :: b :: rest) pos) (tAndB t u) :=
  ⟨fun wh pins s σ H Q I h => (pw_and (pt_weak ha) (pw_weak hb)).run wh pins s σ H Q I ⟨_, h, fun c H1 ⟨d, R, h1, h2, k⟩ => by
    cases c with
    | true => exact iteT ⟨_, h1 rfl, fun b H2 ⟨e, r⟩ => e ▸ k H2 r⟩
    | false => exact iteF (k H1 (h2 rfl))⟩⟩
theorem pw_orB {t u : TT} (ha : PT X a t) (hb : PW X (.BoolOp .Or (b :: rest) pos) u) : PW X (.BoolOp .Or (a :: b :: rest) pos) (tOrB t u) :=
  ⟨fun wh pins s σ H Q I h => (pw_or (pt_weak ha) (pw_weak hb)).run wh pins s σ H Q I ⟨_, h, fun c H1 ⟨d, R, h1, h2, k⟩ => by
    cases c with
    | true => exact iteT (k H1 (h2 rfl))
    | false => exact iteF ⟨_, h1 rfl, fun b H2 ⟨e, r⟩ => e ▸ k H2 r⟩⟩⟩
theorem pe_andB {t u : TE} (ha : PE X a t) (hb : PE X (.BoolOp .And (b :: rest) pos) u) : PE X (.BoolOp .And (a :: b :: rest) pos) (tAndVB t u) :=
  ⟨fun pins s σ H Q I h => (pe_and (pe_weak ha) (pe_weak hb)).run pins s σ H Q I ⟨_, h, fun x H1 ⟨c, d, R, e, h1, h2, k⟩ => ⟨c, e, by
    cases c with
    | true => exact iteT ⟨_, h1 rfl, fun b H2 ⟨e, r⟩ => e ▸ k H2 r⟩
    | false => exact iteF (k H1 (h2 rfl))⟩⟩⟩
theorem pe_orB {t u : TE} (ha : PE X a t) (hb : PE X (.BoolOp .Or (b :: rest) pos) u) : PE X (.BoolOp .Or (a :: b :: rest) pos) (tOrVB t u) :=
  ⟨fun pins s σ H Q I h => (pe_or (pe_weak ha) (pe_weak hb)).run pins s σ H Q I ⟨_, h, fun x H1 ⟨c, d, R, e, h1, h2, k⟩ => ⟨c, e, by
    cases c with
    | true => exact iteT (k H1 (h2 rfl))
    | false => exact iteF ⟨_, h1 rfl, fun b H2 ⟨e, r⟩ => e ▸ k H2 r⟩⟩⟩⟩
/-- a if t else b: one value -/
def tIfB (t : TT) (u v : TE) : TE := fun σ H Q => t σ H fun c H1 => ∃ (x : V) (R : Hp → Prop), (c = true → u σ H1 fun y H2 => y = x ∧ R H2) ∧ (c = false → v σ H1 fun y H2 => y = x ∧ R H2) ∧ ∀ H2, R H2 → Q x H2
theorem pe_ifExpB {c : Expr} {t : TT} {u v : TE} (hc : PT X c t) (ha : PE X a u) (hb : PE X b v) : PE X (.IfExp c a b pos) (tIfB t u v) :=
  ⟨fun pins s σ H Q I h => (pe_ifExp (pt_weak hc) (pe_weak ha) (pe_weak hb)).run pins s σ H Q I ⟨_, h, fun c H1 ⟨x, R, h1, h2, k⟩ => by
    cases c with
    | true => exact iteT ⟨_, h1 rfl, fun y H2 ⟨e, r⟩ => e ▸ k H2 r⟩
    | false => exact iteF ⟨_, h2 rfl, fun y H2 ⟨e, r⟩ => e ▸ k H2 r⟩⟩⟩
/-- a tuple as target, within a comprehension -/
theorem pg_tupK {K : PySem.W.Frag} {es : List Expr} {k : Nat} {t : TGs} (hK : X.K = K) (n : Nat) (hc : X.calm = true) (h : PGs X es t)
    (hn : (assignEach es X.env).length = n := by rfl) (hst : (assignEach es X.env).findIdx? (·.1) = none := by rfl) : PG X (.Tuple es k pos) (gTup K n t) := hK ▸ pg_tup hc h hn hst
/-- a test whose two ways are told by one -/
theorem ite_one {c : Bool} {A B : Prop} (h1 : c = true → A) (h2 : c = false → B) : if c = true then A else B := by
  cases c with
  | true => exact iteT (h1 rfl)
  | false => exact iteF (h2 rfl)
end
/-! ### f(e, .., k = v, ..) of a def with defaults -/
def tFnK (n m : Nat) (sp : Sp) (gV : List V → List V → List V) (E : XK) (t tk : TA) : TE := fun σ H Q => t σ H fun vs H1 => tk σ H1 fun zs H2 => vs.length = n ∧ zs.length = m ∧ sp (gV vs zs) H2 Q E
theorem c_fnK {X : Cx} {CX : CXT} {k j n : Nat} {ps ks : List Str} {sp : Sp} {x : Str} {p pos : Pos} {e : Expr} {es : List Expr} {kws : List Keyword} {t tk : TA} {gV : List V → List V → List V} {E : XK} (O : OkK X.prog X.w X.K X.mg X.base CX k (x, none) ps n ks gV sp) (hr : Room j X.A) (hj : k ≤ j) (kp : PySem.W.keepIn X.K (.ref (He.fAd X.K (x, none))) = true)
    (hm : X.mg x = some (.ref (He.ga X.K x))) (hx : Passes CX X E) (ha : PA X (e :: es) t) (hkw : PK X kws tk) (hg : Gl X x := by rfl) (hall : (backToKw pos (keywordEach kws X.env)).all (·.1.isSome) = true := by rfl) (hks : (backToKw pos (keywordEach kws X.env)).filterMap (·.1) = ks := by rfl)
    (hdb : (x == ("__debug__" : Str)) = false := by decide) (he : starEach (e :: es) X.env = (false, eval e X.env) :: starEach es X.env := by rfl) (hpl : ((backTo pos (starEach (e :: es) X.env)).any (·.1) || (backToKw pos (keywordEach kws X.env)).any (·.1.isNone)) = false := by rfl) :
    PE X (.Call (.Name x p) (e :: es) kws pos) (tFnK n ks.length sp gV E t tk) := by
  obtain ⟨fd, g, F, b⟩ := O.ex
  refine ⟨fun pins s σ H Q I h => wpAny_Call_Name_kw (ld_glob I hg hm ?_ hdb)⟩
  refine PySem.W.callWith_KW (h₀ := X.base) I.ok.mod.kin kp hall (thn (ha.run pos pins s σ H _ I h) fun us s1 ⟨vs, H1, I1, r, q⟩ => thn (hkw.run pos pins s1 σ H1 _ I1 q) fun ws s2 ⟨zs, H2, I2, rz, l1, l2, q2⟩ => ⟨I2.kIn, ?_⟩) hpl he
  rw [hks]
  refine wpAny_call (codeAny_mono (F.run X.A X.stack s2 H2 ⟨us, ks.zip ws⟩ (g us ws) (gV vs zs) Q E (hr.mono hj) I2.env0 (b.to s2 us ws I2.kIn (r.length.symm.trans l1) (rz.length.symm.trans l2)) (b.rel r rz) q2) fun r s' hq => ?_)
  match r, hq with
  | .error e, hq => exact hx pins σ H2 s2 e s' I2 hq
  | .ok (.ret u), hq => exact I2.after hq
end Vf

set_option Elab.async false
set_option linter.all false
set_option maxRecDepth 100000
set_option maxHeartbeats 2000000
/-! ### enumerate(list, start = c) -/
namespace Vf
open PySem PySem.Spec PyProof.Rows L2
section
variable {M : Model} {A : Around} {E : Value → Shared → Prop} {s : Shared} {env : Env}
theorem callWith_type_kwB {pos : Pos} {T : String} {first : List Value} {args : List (Bool × Sem Value)} {keywords : List (Option Str × Sem Value)} {Q : Value → Shared → Prop}
    (hplain : args.any (·.1) = false) (hkw : keywords.any (·.1.isNone) = false)
    (h : wpAny M A (evalArgs (.type T) true args keywords) (fun a s₁ => wpAny M A (call (.type T) (first ++ a.pos) a.kw) Q E s₁) E s) :
    wpAny M A (callWith pos (.type T) first args keywords) Q E s := by
  unfold callWith
  refine wpAny_bind (wpAny_holding (wpAny_mono h (fun a s₁ h₁ => wpAny_bind (wpAny_standAt ?_)) fun _ _ x => x))
  simp only [hplain, hkw, Bool.or_false]
  refine wpAny_bind (wpAny_pure ?_)
  exact wpAny_bind (wpAny_mono h₁ (fun r s₂ hr => wpAny_bind (wpAny_holding (wpAny_point (wpAny_pure hr)))) fun _ _ x => x)
theorem callWith_typeKw {pos : Pos} {T : String} {e : Expr} {rest : List Expr} {kws : List Keyword} {Q : Value → Shared → Prop}
    (h : wpAny M A (spliced (backTo pos (starEach (e :: rest) env))) (fun vs s₁ => wpAny M A (evalAll ((backToKw pos (keywordEach kws env)).map (·.2)))
      (fun kvs s₂ => wpAny M A (call (.type T) vs (((backToKw pos (keywordEach kws env)).filterMap (·.1)).zip kvs)) Q E s₂) E s₁) E s)
    (he : backTo pos (starEach (e :: rest) env) = (false, eval e env) :: backTo pos (starEach rest env) := by rfl)
    (hplain : (backTo pos (starEach (e :: rest) env)).any (·.1) = false := by rfl)
    (hall : (backToKw pos (keywordEach kws env)).all (·.1.isSome) = true := by rfl)
    (hkw : (backToKw pos (keywordEach kws env)).any (·.1.isNone) = false := by rfl) :
    wpAny M A (callWith pos (.type T) [] (backTo pos (starEach (e :: rest) env)) (backToKw pos (keywordEach kws env))) Q E s := by
  refine callWith_type_kwB hplain hkw ?_
  rw [he] at h ⊢
  exact PyProof.Rows.evalArgs_kwB hall h
end
/-- the list at a, each item in a new pair, counted from c on -/
def IteS (K : PySem.W.Frag) (c : Int) (a : Addr) : It :=
  ⟨fun i H => ∃ (xs : List V) (x : V), SqL K H a xs ∧ xs[i]? = some x, fun i H v H' => ∃ T x, v = .ref T ∧ H T = none ∧ H' = upd H T (.tup [.int (c + (i : Nat)), x]) ∧ ∀ xs, SqL K H a xs → xs[i]? = some x, fun i H => ∃ xs : List V, SqL K H a xs ∧ xs.length = i⟩
theorem turn_enumS {P : Program} {w : World} {K : PySem.W.Frag} {elts : List Expr} {kk : Nat} {tpos : Pos} (c : Int) (a e it : Addr) :
    Turn P w K (.Tuple elts kk tpos) (IteS K c a) [e, it] e (fun i h => (∃ old, IsEnum h e it (c + ((i : Nat) : Int)) old) ∧ h.IsListIter it a i ∧ e ≠ it) where
  mem := by simp
  obj := fun i h st b hb => by
    obtain ⟨⟨old, he⟩, ⟨o, ho, hc, hd⟩, _⟩ := st
    have e' : b = e ∨ b = it := by simpa using hb
    rcases e' with z | z
    · rw [z]; exact ⟨_, he, fun v q => nomatch q⟩
    · rw [z]; exact ⟨o, ho, fun v q => by rw [hd] at q; cases q⟩
  keep := fun i h h' st k => let ⟨⟨old, he⟩, hi, hne⟩ := st; ⟨⟨old, k e (by simp) _ he⟩, hi.at fun o q => k it (by simp) o q, hne⟩
  item := by
    intro X hP hw hK hc i pins s σ H E I hf st hg
    subst hP hw hK
    obtain ⟨⟨old, he⟩, hit, hne⟩ := st
    obtain ⟨xs, x, hq, hx⟩ := hg
    obtain ⟨its, rv, p, hz⟩ := I.list hq
    obtain ⟨u, hu, ru⟩ := rv.get hx
    have pT : s.heap.IsList a its.toArray := p.isList
    have hel : e < s.heap.objs.size := Heap.lt_size he
    have hil : it < s.heap.objs.size := by obtain ⟨_, q, _⟩ := hit; exact Heap.lt_size q
    have nai : a ≠ it := fun z => by
      subst z
      obtain ⟨o1, h1, c1, _⟩ := pT
      obtain ⟨o2, h2, c2, _⟩ := hit
      rw [h1] at h2
      cases h2
      rw [c1] at c2
      injection c2 with c2
      exact absurd c2 (by decide)
    have nae : a ≠ e := fun z => by
      subst z
      obtain ⟨o1, h1, c1, _⟩ := pT
      rw [show s.heap.get? a = _ from he] at h1
      cases h1
      injection c1 with c1
      exact absurd c1 (by decide)
    have hli : i < its.toArray.size := by
      have := (List.getElem?_eq_some_iff.mp hu).1
      simpa using this
    have hh : X.A.in1.handled = none := I.ok.hd hc
    refine wpAny_pyNext_enum_itemC (Draws.list hh it a nai its.toArray) he ⟨hit, pT⟩ hli hne (by simp [hne, nae.symm]) fun v h' tk hv ho hit' hT hsz hk => ?_
    have ev : v = u := by
      have h1 : its[i]? = some v := by simpa using hv
      rw [hu] at h1
      exact (Option.some.inj h1).symm
    subst ev
    refine ⟨_, rfl, wpAny_letOwnedTupleGo_enum (s := { s with heap := h', toks := tk + 1 }) ho fun h'' he' sb => ?_⟩
    have hT2 : h''.get? s.heap.objs.size = some { cls := .type "tuple", data := .seq #[.int (c + (i : Nat)) tk, v] } := (sb.2 _ (Nat.ne_of_gt hel)).trans hT
    have new : ObjOk X.prog X.w (upd H s.heap.objs.size (.tup [.int (c + (i : Nat)), x])) h'' s.heap.objs.size (.tup [.int (c + (i : Nat)), x]) :=
      ⟨by show 2 ≤ sizeLine; decide, [.int (c + (i : Nat)) tk, v], .cons ⟨_, rfl⟩ (.cons ru .nil), ⟨_, hT2, rfl, _, rfl⟩⟩
    have I1 : Inv X pins σ (upd H s.heap.objs.size (.tup [.int (c + (i : Nat)), x])) { s with heap := h'', toks := tk + 1 } :=
      I.turnedNew (ch := [e, it]) (fun b ob hb q => (sb.2 b (fun z => hb (by simp [z]))).trans (hk b ob (fun z => hb (by simp [z])) (fun z => hb (by simp [z])) q)) hf (Nat.le_refl _) new
    refine ⟨.ref s.heap.objs.size, _, I1, rfl, ⟨_, x, rfl, I.hok.fresh (Nat.le_refl _), rfl, fun ys hy => by rw [I.list_inj hy hq]; exact hx⟩, ⟨⟨v, ?_⟩, hit'.1.at fun o q => (sb.2 it (Ne.symm hne)).trans q, hne⟩, fun b hb => ?_⟩
    · have e1 : c + ((i + 1 : Nat) : Int) = c + (i : Int) + 1 := by omega
      rw [e1]; exact he'
    · have hb' : b < s.heap.objs.size := by
        have e' : b = e ∨ b = it := by simpa using hb
        rcases e' with z | z
        · rw [z]; exact hel
        · rw [z]; exact hil
      rw [upd_ne (Nat.ne_of_lt hb')]
      exact (hf b hb).1
  done := by
    intro X hP hw hK hc i pins s σ H E I hf st hg
    subst hP hw hK
    obtain ⟨⟨old, he⟩, hit, hne⟩ := st
    obtain ⟨xs, hq, hx⟩ := hg
    obtain ⟨its, rv, p, hz⟩ := I.list hq
    have pT : s.heap.IsList a its.toArray := p.isList
    obtain ⟨f0, f1, f2, f3, f4, f5⟩ := hf it (by simp)
    have hl := rv.length
    have nai : a ≠ it := fun z => by
      subst z
      obtain ⟨o1, h1, c1, _⟩ := pT
      obtain ⟨o2, h2, c2, _⟩ := hit
      rw [h1] at h2
      cases h2
      rw [c1] at c2
      injection c2 with c2
      exact absurd c2 (by decide)
    have hh : X.A.in1.handled = none := I.ok.hd hc
    have hin : its.toArray.size = i := by simp; omega
    subst hin
    exact wpAny_pyNext_enum_endD (Draws.list hh it a nai its.toArray) he ⟨hit, pT⟩ fun h' eb => ⟨rfl, I.turned (t' := s.toks) (fun b o hb q => eb b o hb q) f0 f1 f3 f4 f5⟩
  self := fun A i s Q E st h => let ⟨⟨_, he⟩, _⟩ := st; wpAny_pyIter_enum he h
def iEnumS (K : PySem.W.Frag) (ta tk : TA) : TI := fun σ H R => ta σ H fun vs H1 => tk σ H1 fun ks H2 => ∃ a xs c, vs = [.ref a] ∧ ks = [.int c] ∧ -(2 ^ 63) ≤ c ∧ c < 2 ^ 63 ∧ SqL K H2 a xs ∧ R (IteS K c a) H2
theorem pi_enumS {X : Cx} {e : Expr} {ta tk : TA} {kws : List Keyword} {p pos tpos : Pos} {elts : List Expr} {kk : Nat} (hg : Gl X "enumerate") (hm : X.mg "enumerate" = none) (ha : PA X [e] ta) (hkw : PK X kws tk)
    (hks : (backToKw pos (keywordEach kws X.env)).filterMap (·.1) = [Str.ofString "start"] := by rfl) (he : backTo pos (starEach [e] X.env) = (false, eval e X.env) :: backTo pos (starEach [] X.env) := by rfl)
    (hplain : (backTo pos (starEach [e] X.env)).any (·.1) = false := by rfl) (hall : (backToKw pos (keywordEach kws X.env)).all (·.1.isSome) = true := by rfl) (hnone : (backToKw pos (keywordEach kws X.env)).any (·.1.isNone) = false := by rfl) :
    PI X (.Tuple elts kk tpos) (.Call (.Name "enumerate" p) [e] kws pos) (iEnumS X.K ta tk) := by
  refine ⟨fun pins s σ H R I h => ?_⟩
  refine PySem.wpAny_Call_Name_kw (ld_blt I hg hm boot_enumerate (callWith_typeKw (thn (ha.run pos pins s σ H _ I h) fun us s1 ⟨vs, H1, I1, r1, q1⟩ => ?_) he hplain hall hnone))
  refine thn (hkw.run pos pins s1 σ H1 _ I1 q1) fun ws s2 ⟨zs, H2, I2, rz, q2⟩ => ?_
  obtain ⟨a, xs, c, ex, ez, c0, c1, hq, q⟩ := q2
  subst ex ez
  rw [hks]
  cases r1 with
  | cons r rr =>
    cases rr
    cases r
    cases rz with
    | cons rc rr =>
      cases rr
      obtain ⟨t, rfl⟩ := rc
      obtain ⟨its, rv, p', hz⟩ := I2.list hq
      refine enum_begins_start (begins_list a its.toArray) p'.isList c0 c1 fun h' he hit hsz hk => wpAny_pyIter_enum he ?_
      have I3 : Inv X pins σ H2 { s2 with heap := h' } := I2.kept (t' := s2.toks) hk
      refine ⟨s2.heap.objs.size + 1, [s2.heap.objs.size + 1, s2.heap.objs.size], _, _, H2, rfl, I3, turn_enumS c a (s2.heap.objs.size + 1) s2.heap.objs.size, ⟨⟨.none, by simpa using he⟩, ⟨_, hit, rfl, rfl⟩, Nat.succ_ne_self _⟩, fun b hb => ?_, q⟩
      have e' : b = s2.heap.objs.size + 1 ∨ b = s2.heap.objs.size := by simpa using hb
      have hle : s2.heap.objs.size ≤ b := by
        rcases e' with z | z
        · rw [z]; exact Nat.le_add_right _ _
        · rw [z]; exact Nat.le_refl _
      exact I2.fpOk hle (I2.hok.fresh hle)
theorem walk_enumS {K : PySem.W.Frag} {c : Int} {a : Addr} {xs : List V} : Walk (IteS K c a) xs.length (fun H => SqL K H a xs) (YPair (fun i => some (.int (c + (i : Nat)))) (fun i => xs[i]?)) := by
  refine ⟨fun i _ hi q => ⟨xs, xs[i], q, by simp [hi]⟩, fun _ q => ⟨xs, q, rfl⟩, fun i H v H' _ q y => ?_⟩
  obtain ⟨T, x, h1, h2, h3, h4⟩ := y
  exact ⟨T, .int (c + (i : Nat)), x, h1, h2, h3, rfl, h4 xs q⟩
end Vf

set_option Elab.async false
set_option linter.all false
set_option maxRecDepth 100000
set_option maxHeartbeats 1000000
namespace Vf
open PySem PySem.Spec PyProof.Rows L2
section
variable {X : Cx}
/-- t == u, two tuples of equal items -/
def rEq0 (K : PySem.W.Frag) : R2 := fun x y H Q => ∃ (a b : Addr) (xs ys : List V), x = .ref a ∧ y = .ref b ∧ SqT K H a xs ∧ SqT K H b ys ∧ Paired (fun z z' => EqI K H z z' true) xs ys ∧ Q (.bl true) H
theorem op_eq0 (hu : X.A.units + 64 < cLine) : OpR X (compareOp .Eq) (rEq0 X.K) := by
  intro pins s σ H x y v u Q I rx ry h
  obtain ⟨a, b, xs, ys, rfl, rfl, ha, hb, hp, q⟩ := h
  cases rx
  cases ry
  have hu1 : X.A.in1.units < cLine := by show X.A.units + 1 < cLine; omega
  obtain ⟨us, r1, p1, _⟩ := I.tuple ha
  obtain ⟨ws, r2, p2, _⟩ := I.tuple hb
  have hs : us.toArray.size = ws.toArray.size := by rw [List.size_toArray, List.size_toArray, ← r1.length, ← r2.length]; exact Paired.length hp
  refine SeqAt.RcAt.tuples (e := fun _ => true) p1 p2 (by omega) (fun j h1 h2 => ?_) _ _ _ _ ?_
  · have := items_at (fun r1 r2 k => EqI.at I k r1 r2 hu1) hp r1 r2 j (by simpa using h1) (by simpa using h2)
    simpa using this
  · rw [hs, show ((List.range (min ws.toArray.size ws.toArray.size)).all fun _ => true) = true from List.all_eq_true.mpr fun _ _ => rfl, beq_self_eq_true]
    exact ⟨.bl true, H, I, rfl, q⟩
end
end Vf

set_option Elab.async false
set_option linter.all false
set_option maxRecDepth 100000
set_option maxHeartbeats 1000000
namespace Vf
open PySem PySem.Spec PyProof.Rows L2
section
variable {X : Cx}
/-- l == m, two lists: of unlike lengths, or of equal items -/
def rEqL0 (K : PySem.W.Frag) : R2 := fun x y H Q => ∃ (a b : Addr) (xs ys : List V), x = .ref a ∧ y = .ref b ∧ SqL K H a xs ∧ SqL K H b ys ∧ ((xs.length ≠ ys.length ∧ Q (.bl false) H) ∨ (Paired (fun z z' => EqI K H z z' true) xs ys ∧ Q (.bl true) H))
theorem op_eqL0 (hu : X.A.units + 64 < cLine) : OpR X (compareOp .Eq) (rEqL0 X.K) := by
  intro pins s σ H x y v u Q I rx ry h
  obtain ⟨a, b, xs, ys, rfl, rfl, ha, hb, h⟩ := h
  cases rx
  cases ry
  have hu1 : X.A.in1.units < cLine := by show X.A.units + 1 < cLine; omega
  obtain ⟨us, r1, p1, _⟩ := I.list ha
  obtain ⟨ws, r2, p2, _⟩ := I.list hb
  rcases h with ⟨hn, q⟩ | ⟨hp, q⟩
  · have hs : (us.toArray.size != ws.toArray.size) = true := by
      rw [List.size_toArray, List.size_toArray, ← r1.length, ← r2.length]
      simpa using hn
    exact SeqAt.RcAt.lists_lengths p1.isList p2.isList hs (by omega) _ _ _ _ ⟨.bl false, H, I, rfl, q⟩
  · have hs : us.toArray.size = ws.toArray.size := by rw [List.size_toArray, List.size_toArray, ← r1.length, ← r2.length]; exact Paired.length hp
    refine SeqAt.RcAt.lists (e := fun _ => true) p1.isList p2.isList hs (by omega) (fun j h1 h2 => ?_) _ _ _ _ ?_
    · have := items_at (fun r1 r2 k => EqI.at I k r1 r2 hu1) hp r1 r2 j (by simpa using h1) (by simpa using h2)
      simpa using this
    · rw [show ((List.range us.toArray.size).all fun _ => true) = true from List.all_eq_true.mpr fun _ _ => rfl]
      exact ⟨.bl true, H, I, rfl, q⟩
/-- l == [] -/
def rEqNil (K : PySem.W.Frag) : R2 := fun x y H Q => ∃ (a b : Addr) (xs : List V), x = .ref a ∧ y = .ref b ∧ SqL K H a xs ∧ SqL K H b [] ∧ Q (.bl xs.isEmpty) H
theorem op_eqNil (hu : X.A.units + 64 < cLine) : OpR X (compareOp .Eq) (rEqNil X.K) := by
  intro pins s σ H x y v u Q I rx ry h
  obtain ⟨a, b, xs, rfl, rfl, ha, hb, q⟩ := h
  refine op_eqL0 hu _ _ _ _ _ _ _ _ _ I rx ry ⟨a, b, xs, [], rfl, rfl, ha, hb, ?_⟩
  cases xs with
  | nil => exact .inr ⟨.nil, q⟩
  | cons x xs => exact .inl ⟨(by simp), q⟩
end
end Vf

set_option Elab.async false
set_option linter.all false
set_option maxRecDepth 100000
set_option maxHeartbeats 1000000
namespace Vf
open PySem PySem.Spec PyProof.Rows L2
/-- the objects that the facts want: those near the module's names, and what the properties' getters are made of -/
def asX (g : Addr → Option Obj) (gs : List GetD) : List Addr := He.asD g 4 ++ He.growD g (He.growD g (gs.map fun x => gAd (He.frG g (He.asD g 4)) x.cls x.attr))
def obsXG (ex : PySem.W.Frag → Bool) (fn : List He.DefD) (gs : List GetD) (g : Addr → Option Obj) : AlP := obsP ex fn gs (He.frG g (asX g gs))
def hookX (ex : PySem.W.Frag → Bool) (fn : List He.DefD) (gs : List GetD) : PySem.W.Hook where
  α := AlP
  obs := fun s => obsXG ex fn gs s.heap.get?
  val := fun _ => (true, fn.map He.DefD.val, gs.map GetD.val)
  says := fun _ h => ∃ K : PySem.W.Frag, K.In h ∧ SaysP ex fn gs K
  of := fun _ _ e => ⟨_, He.frG_in, e⟩
  keeps := fun _ _ _ ⟨K, hK, c⟩ k => ⟨K, PySem.W.Frag.In.keeps hK k, c⟩
theorem obsXG_eq {ex : PySem.W.Frag → Bool} {fn : List He.DefD} {gs : List GetD} {g : Addr → Option Obj} {s : Shared} (h : ∀ a, g a = s.heap.get? a) : obsXG ex fn gs g = (hookX ex fn gs).obs s := by
  have e : g = s.heap.get? := funext h
  rw [e]
  rfl
end Vf

set_option Elab.async false
set_option linter.all false
set_option maxRecDepth 100000
namespace K36
open PySem PySem.Spec PyProof.Rows L2 Vf
def top (i : Nat) : Stmt := PySem.Challenge.pw_seenshares_k36_whole_texts_read_back.main.body.getD i (.Pass ⟨0, 0, 0, 0⟩)
def KEPT : List Str := ["any", "closed", "end", "open", "to"]
def LET : Str := "abcdefghijklmnopqrstuvwxyz"
abbrev s_is_integer : Stmt := top 12
abbrev s_is_integer_from : Stmt := top 13
abbrev s_is_flag : Stmt := top 14
abbrev s_is_name : Stmt := top 15
abbrev s_BadPlace_init : Stmt := inClass (top 3) 0
abbrev s_Place_init : Stmt := inClass (top 20) 0
abbrev s_Place_eq : Stmt := inClass (top 20) 1
abbrev s_has_twins : Stmt := top 16
abbrev s_is_one_of : Stmt := top 22
abbrev s_is_choice : Stmt := top 25
abbrev s_are_places : Stmt := top 23
abbrev s_are_nexts : Stmt := top 24
abbrev s_BadProgram_init : Stmt := inClass (top 4) 0
abbrev s_Program_init : Stmt := inClass (top 21) 0
abbrev s_NoPlace_init : Stmt := inClass (top 5) 0
abbrev s_Program_contains : Stmt := inClass (top 21) 4
abbrev s_Program_getitem : Stmt := inClass (top 21) 2
abbrev s_BadSampler_init : Stmt := inClass (top 6) 0
abbrev s_Sampler_init : Stmt := inClass (top 28) 0
abbrev s_Program_nexts : Stmt := inClass (top 21) 1
abbrev s_BadText_init : Stmt := inClass (top 7) 0
abbrev s_digit_of : Stmt := top 41
abbrev s_lines_of : Stmt := top 34
abbrev s_check_end : Stmt := top 35
abbrev s_start_line : Stmt := top 38
abbrev s_place_line : Stmt := top 39
abbrev s_sampler_line : Stmt := top 40
abbrev s_start_told : Stmt := top 42
abbrev s_sampler_told : Stmt := top 44
abbrev s_place_told : Stmt := top 43
abbrev s_with_names : Stmt := top 36
abbrev s_program_with : Stmt := top 37
abbrev s_write : Stmt := top 32
abbrev s_read : Stmt := top 33
abbrev s_law_take : Stmt := top 47
abbrev s_law_cell : Stmt := top 46
abbrev s_law_name : Stmt := top 49
abbrev s_law_rows : Stmt := top 50
abbrev s_law_nexts : Stmt := top 52
abbrev s_law_program : Stmt := top 53
abbrev s_law_is_integer : Stmt := top 48
abbrev s_law_spec : Stmt := top 54
abbrev s_law_sampler : Stmt := top 55
abbrev s_Program_eq : Stmt := inClass (top 21) 6
abbrev s_Sampler_eq : Stmt := inClass (top 28) 1
abbrev s_law_changed : Stmt := top 56
abbrev s_law_same : Stmt := top 57
abbrev s_law : Stmt := top 58
end K36
set_option Elab.async false
set_option linter.all false
set_option maxRecDepth 100000
set_option maxHeartbeats 0
namespace K36
open PySem PySem.Spec PyProof.Rows L2 Vf
def fn : List He.DefD := [
  ⟨("is_integer", none), "is_integer", "is_integer", defArgs s_is_integer, defBody s_is_integer, defScope s_is_integer, [], []⟩,
  ⟨("is_integer_from", none), "is_integer_from", "is_integer_from", defArgs s_is_integer_from, defBody s_is_integer_from, defScope s_is_integer_from, [], []⟩,
  ⟨("is_flag", none), "is_flag", "is_flag", defArgs s_is_flag, defBody s_is_flag, defScope s_is_flag, [], []⟩,
  ⟨("is_name", none), "is_name", "is_name", defArgs s_is_name, defBody s_is_name, defScope s_is_name, [], []⟩,
  ⟨("has_twins", none), "has_twins", "has_twins", defArgs s_has_twins, defBody s_has_twins, defScope s_has_twins, [], []⟩,
  ⟨("BadPlace", some "__init__"), "__init__", "BadPlace.__init__", defArgs s_BadPlace_init, defBody s_BadPlace_init, defScope s_BadPlace_init, [], []⟩,
  ⟨("Place", some "__init__"), "__init__", "Place.__init__", defArgs s_Place_init, defBody s_Place_init, defScope s_Place_init, [.int 1, .non], [("let", .bl true)]⟩,
  ⟨("Place", some "__eq__"), "__eq__", "Place.__eq__", defArgs s_Place_eq, defBody s_Place_eq, defScope s_Place_eq, [], []⟩,
  ⟨("BadProgram", some "__init__"), "__init__", "BadProgram.__init__", defArgs s_BadProgram_init, defBody s_BadProgram_init, defScope s_BadProgram_init, [], []⟩,
  ⟨("NoPlace", some "__init__"), "__init__", "NoPlace.__init__", defArgs s_NoPlace_init, defBody s_NoPlace_init, defScope s_NoPlace_init, [], []⟩,
  ⟨("Program", some "__init__"), "__init__", "Program.__init__", defArgs s_Program_init, defBody s_Program_init, defScope s_Program_init, [], [("start", .non)]⟩,
  ⟨("Program", some "__contains__"), "__contains__", "Program.__contains__", defArgs s_Program_contains, defBody s_Program_contains, defScope s_Program_contains, [], []⟩,
  ⟨("Program", some "__getitem__"), "__getitem__", "Program.__getitem__", defArgs s_Program_getitem, defBody s_Program_getitem, defScope s_Program_getitem, [], []⟩,
  ⟨("is_one_of", none), "is_one_of", "is_one_of", defArgs s_is_one_of, defBody s_is_one_of, defScope s_is_one_of, [], []⟩,
  ⟨("are_places", none), "are_places", "are_places", defArgs s_are_places, defBody s_are_places, defScope s_are_places, [], []⟩,
  ⟨("are_nexts", none), "are_nexts", "are_nexts", defArgs s_are_nexts, defBody s_are_nexts, defScope s_are_nexts, [], []⟩,
  ⟨("is_choice", none), "is_choice", "is_choice", defArgs s_is_choice, defBody s_is_choice, defScope s_is_choice, [], []⟩,
  ⟨("BadSampler", some "__init__"), "__init__", "BadSampler.__init__", defArgs s_BadSampler_init, defBody s_BadSampler_init, defScope s_BadSampler_init, [], []⟩,
  ⟨("Sampler", some "__init__"), "__init__", "Sampler.__init__", defArgs s_Sampler_init, defBody s_Sampler_init, defScope s_Sampler_init, [.int 0], [("phase", .int 0)]⟩,
  ⟨("BadText", some "__init__"), "__init__", "BadText.__init__", defArgs s_BadText_init, defBody s_BadText_init, defScope s_BadText_init, [], []⟩,
  ⟨("write", none), "write", "write", defArgs s_write, defBody s_write, defScope s_write, [], []⟩,
  ⟨("read", none), "read", "read", defArgs s_read, defBody s_read, defScope s_read, [], []⟩,
  ⟨("lines_of", none), "lines_of", "lines_of", defArgs s_lines_of, defBody s_lines_of, defScope s_lines_of, [], []⟩,
  ⟨("check_end", none), "check_end", "check_end", defArgs s_check_end, defBody s_check_end, defScope s_check_end, [], []⟩,
  ⟨("with_names", none), "with_names", "with_names", defArgs s_with_names, defBody s_with_names, defScope s_with_names, [], []⟩,
  ⟨("program_with", none), "program_with", "program_with", defArgs s_program_with, defBody s_program_with, defScope s_program_with, [], []⟩,
  ⟨("start_line", none), "start_line", "start_line", defArgs s_start_line, defBody s_start_line, defScope s_start_line, [], []⟩,
  ⟨("place_line", none), "place_line", "place_line", defArgs s_place_line, defBody s_place_line, defScope s_place_line, [], []⟩,
  ⟨("sampler_line", none), "sampler_line", "sampler_line", defArgs s_sampler_line, defBody s_sampler_line, defScope s_sampler_line, [], []⟩,
  ⟨("digit_of", none), "digit_of", "digit_of", defArgs s_digit_of, defBody s_digit_of, defScope s_digit_of, [], []⟩,
  ⟨("start_told", none), "start_told", "start_told", defArgs s_start_told, defBody s_start_told, defScope s_start_told, [], []⟩,
  ⟨("place_told", none), "place_told", "place_told", defArgs s_place_told, defBody s_place_told, defScope s_place_told, [], []⟩,
  ⟨("sampler_told", none), "sampler_told", "sampler_told", defArgs s_sampler_told, defBody s_sampler_told, defScope s_sampler_told, [], []⟩,
  ⟨("_law_take", none), "_law_take", "_law_take", defArgs s_law_take, defBody s_law_take, defScope s_law_take, [], []⟩,
  ⟨("_law_cell", none), "_law_cell", "_law_cell", defArgs s_law_cell, defBody s_law_cell, defScope s_law_cell, [], []⟩,
  ⟨("_law_name", none), "_law_name", "_law_name", defArgs s_law_name, defBody s_law_name, defScope s_law_name, [], []⟩,
  ⟨("_law_rows", none), "_law_rows", "_law_rows", defArgs s_law_rows, defBody s_law_rows, defScope s_law_rows, [], []⟩,
  ⟨("_law_nexts", none), "_law_nexts", "_law_nexts", defArgs s_law_nexts, defBody s_law_nexts, defScope s_law_nexts, [], []⟩,
  ⟨("_law_program", none), "_law_program", "_law_program", defArgs s_law_program, defBody s_law_program, defScope s_law_program, [], []⟩,
  ⟨("_law_spec", none), "_law_spec", "_law_spec", defArgs s_law_spec, defBody s_law_spec, defScope s_law_spec, [], []⟩,
  ⟨("_law_sampler", none), "_law_sampler", "_law_sampler", defArgs s_law_sampler, defBody s_law_sampler, defScope s_law_sampler, [], []⟩,
  ⟨("_law_is_integer", none), "_law_is_integer", "_law_is_integer", defArgs s_law_is_integer, defBody s_law_is_integer, defScope s_law_is_integer, [], []⟩,
  ⟨("_law_changed", none), "_law_changed", "_law_changed", defArgs s_law_changed, defBody s_law_changed, defScope s_law_changed, [], []⟩,
  ⟨("_law_same", none), "_law_same", "_law_same", defArgs s_law_same, defBody s_law_same, defScope s_law_same, [], []⟩,
  ⟨("Program", some "__eq__"), "__eq__", "Program.__eq__", defArgs s_Program_eq, defBody s_Program_eq, defScope s_Program_eq, [], []⟩,
  ⟨("Sampler", some "__eq__"), "__eq__", "Sampler.__eq__", defArgs s_Sampler_eq, defBody s_Sampler_eq, defScope s_Sampler_eq, [], []⟩,
  ⟨("law", none), "law", "law", defArgs s_law, defBody s_law, defScope s_law, [], []⟩]
def fa : List He.Fa := [.meth "Place" "__eq__", .meth "Program" "__eq__", .meth "Program" "__contains__", .meth "Program" "__getitem__", .meth "Sampler" "__eq__", .free "int", .free "bool", .free "str", .free "len", .free "all", .free "isinstance", .int "LONGEST_NAME" 8, .int "MOST_TICKS" 6, .str "LETTERS" "abcdefghijklmnopqrstuvwxyz", .glo "KEPT_WORDS", .glo "is_integer", .glo "is_integer_from", .glo "is_flag", .glo "is_name", .glo "Place", .glo "BadPlace", .cls "Place", .mkr "Place", .noat "Place" "name", .noat "Place" "least", .noat "Place" "most", .noat "Place" "let", .free "enumerate", .free "list", .free "tuple", .free "dict", .int "MOST_PLACES" 6, .glo "has_twins", .glo "is_one_of", .glo "are_places", .glo "are_nexts", .glo "is_choice", .glo "Program", .glo "BadProgram", .glo "NoPlace", .cls "Program", .mkr "Program", .noat "Program" "names", .noat "Program" "start", .noat "Program" "_places", .noat "Program" "_nexts", .free "range", .int "MOST_PERIOD" 8, .glo "Sampler", .glo "BadSampler", .cls "Sampler", .mkr "Sampler", .noat "Sampler" "period", .noat "Sampler" "jitter", .noat "Sampler" "phase", .int "MOST_TEXT" 1000, .str "DIGITS" "0123456789", .glo "write", .glo "read", .glo "lines_of", .glo "check_end", .glo "with_names", .glo "program_with", .glo "start_line", .glo "place_line", .glo "sampler_line", .glo "digit_of", .glo "start_told", .glo "place_told", .glo "sampler_told", .glo "BadText", .glo "_law_cell", .glo "_law_take", .glo "_law_name", .glo "_law_rows", .glo "_law_nexts", .glo "_law_program", .glo "_law_is_integer", .glo "_law_row", .glo "_law_spec", .glo "_law_sampler", .glo "_law_changed", .glo "_law_same", .glo "law"]
def gt : List GetD := [⟨"Program", "nexts", ⟨("Program", some "nexts"), "nexts", "Program.nexts", defArgs s_Program_nexts, defBody s_Program_nexts, defScope s_Program_nexts, [], []⟩⟩]
def ex2 (K : PySem.W.Frag) : Bool := ((He.eqO (PySem.W.findIn K (.ref (He.ga K "Place")) "__ne__") (some (some (.builtin "object.__ne__")))) && ((He.eqO (PySem.W.findIn K (.ref (He.ga K "Program")) "__ne__") (some (some (.builtin "object.__ne__")))) && ((PySem.W.fnIn K (He.fAd K ("Program", some "__getitem__"))) && ((He.eqO (PySem.W.findIn K (.ref (He.ga K "Sampler")) "__ne__") (some (some (.builtin "object.__ne__")))) && ((kTup K (He.ga K "KEPT_WORDS") KEPT) && ((exI K "BadPlace" "why") && ((He.eqO (PySem.W.specialIn K (.builtin "object.__class__") "__get__") (some (some (.builtin "getset_descriptor.__get__")))) && ((decide (PySem.W.takesIn K (.builtin "object.__class__") = some true)) && ((He.eqO (PySem.W.findIn K (.ref (He.ga K "Place")) "__class__") (some (some (.builtin "object.__class__")))) && ((decide (PySem.W.mroIn K (He.ga K "Place") (.type "object") = some true)) && ((decide (PySem.W.kitOne K (.ref (He.ga K "Place")) (.ref (He.ga K "Place")) = some true)) && ((exI K "BadProgram" "why") && ((exI K "NoPlace" "name") && ((He.eqO (PySem.W.findIn K (.ref (He.ga K "Program")) "__class__") (some (some (.builtin "object.__class__")))) && ((decide (PySem.W.mroIn K (He.ga K "Program") (.type "object") = some true)) && ((decide (PySem.W.kitOne K (.ref (He.ga K "Program")) (.ref (He.ga K "Program")) = some true)) && ((He.eqO (PySem.W.findIn K (.ref (He.ga K "Sampler")) "__class__") (some (some (.builtin "object.__class__")))) && ((decide (PySem.W.mroIn K (He.ga K "Sampler") (.type "object") = some true)) && ((decide (PySem.W.kitOne K (.ref (He.ga K "Sampler")) (.ref (He.ga K "Sampler")) = some true)) && ((exI K "BadSampler" "why") && ((exI K "BadText" "line") && ((decide (PySem.W.exmOne K (.ref (He.ga K "BadSampler")) (.ref (He.ga K "BadSampler")) = some true)) && true))))))))))))))))))))))
def ex (K : PySem.W.Frag) : Bool := (fa.all fun f => f.ok K) && ex2 K
abbrev R : PySem.W.OpenRow := PySem.W.OpenLaw.row PySem.Challenge.rw_seenshares_k36_whole_texts_read_back
abbrev hk : PySem.W.Hook := hookX ex fn gt
def ob (s : PySem.W.SharedT) : AlP := obsXG ex fn gt (HandSHeadRun.getT s)
theorem ob_eq (s : PySem.W.SharedT) : ob s = hk.obs s.abs := obsXG_eq (HandSHeadRun.getT_eq s)
def names : List Str := ("_wall" : Str) :: ("SeenError" : Str) :: ("BadPlace" : Str) :: ("BadProgram" : Str) :: ("NoPlace" : Str) :: ("BadSampler" : Str) :: ("BadText" : Str) :: ("KEPT_WORDS" : Str) :: ("LETTERS" : Str) :: ("LONGEST_NAME" : Str) :: ("is_integer" : Str) :: ("is_integer_from" : Str) :: ("is_flag" : Str) :: ("is_name" : Str) :: ("has_twins" : Str) :: ("MOST_TICKS" : Str) :: ("MOST_PLACES" : Str) :: ("Place" : Str) :: ("Program" : Str) :: ("is_one_of" : Str) :: ("are_places" : Str) :: ("are_nexts" : Str) :: ("is_choice" : Str) :: ("MOST_PERIOD" : Str) :: ("Sampler" : Str) :: ("MOST_TEXT" : Str) :: ("DIGITS" : Str) :: ("write" : Str) :: ("read" : Str) :: ("lines_of" : Str) :: ("check_end" : Str) :: ("with_names" : Str) :: ("program_with" : Str) :: ("start_line" : Str) :: ("place_line" : Str) :: ("sampler_line" : Str) :: ("digit_of" : Str) :: ("start_told" : Str) :: ("place_told" : Str) :: ("sampler_told" : Str) :: ("_law_cell" : Str) :: ("_law_take" : Str) :: ("_law_is_integer" : Str) :: ("_law_name" : Str) :: ("_law_rows" : Str) :: ("_law_row" : Str) :: ("_law_nexts" : Str) :: ("_law_program" : Str) :: ("_law_spec" : Str) :: ("_law_sampler" : Str) :: ("_law_changed" : Str) :: ("_law_same" : Str) :: []
noncomputable def E0 (w : World) (os : OsState) : Option PySem.W.SharedT := HandSHeadRun.endF (HandSHeadRun.stepQ (HandSHeadRun.denQ HandSHeadRun.tabQ) R.prog w) 100000 R.prog w os
noncomputable def KK (s : PySem.W.SharedT) : PySem.W.Frag := He.frG (HandSHeadRun.getT s) (asX (HandSHeadRun.getT s) gt)
theorem run_of {w : World} {os : OsState} (a : (E0 w os).map (fun s => HandSHeadRun.looksF R.prog (PySem.W.boot_heap w.params) s.abs) = some true)
    (b : (E0 w os).map (fun s => HandSHeadRun.seenQ (PySem.W.view R.prog [58]) names (importedModules R.prog.main.body) (fun s => PySem.W.xlAt (PySem.W.view R.prog [58]) [] s && PySem.W.recOk R.toRowW.records s) s.abs) = some (PySem.W.openGood (PySem.W.view R.prog [58]) names))
    (c : (E0 w os).map (fun s => ex (KK s)) = some true) (d : (E0 w os).map (fun s => ((fn.all fun d => d.ok (KK s)) && gt.all fun g => g.ok (KK s))) = some true)
    (e : (E0 w os).map (fun s => (fn.map fun d => He.fnW (KK s) d.at_, gt.map (gnW (KK s)))) = some (fn.map He.DefD.val, gt.map GetD.val)) :
    (E0 w os).map (fun s => (HandSHeadRun.looksF R.prog (PySem.W.boot_heap w.params) s.abs, HandSHeadRun.seenQ (PySem.W.view R.prog [58]) names (importedModules R.prog.main.body) (fun s => PySem.W.xlAt (PySem.W.view R.prog [58]) [] s && PySem.W.recOk R.toRowW.records s) s.abs, ob s)) = some (true, PySem.W.openGood (PySem.W.view R.prog [58]) names, PySem.W.Hook.val hk w) := by
  generalize E0 w os = r at a b c d e ⊢
  cases r with
  | none => cases a
  | some s =>
    have a : HandSHeadRun.looksF R.prog (PySem.W.boot_heap w.params) s.abs = true := Option.some.inj a
    have b : HandSHeadRun.seenQ (PySem.W.view R.prog [58]) names (importedModules R.prog.main.body) (fun s => PySem.W.xlAt (PySem.W.view R.prog [58]) [] s && PySem.W.recOk R.toRowW.records s) s.abs = PySem.W.openGood (PySem.W.view R.prog [58]) names := Option.some.inj b
    have c : ex (KK s) = true := Option.some.inj c
    have d : ((fn.all fun d => d.ok (KK s)) && gt.all fun g => g.ok (KK s)) = true := Option.some.inj d
    have e : (fn.map (fun d => He.fnW (KK s) d.at_), gt.map (gnW (KK s))) = (fn.map He.DefD.val, gt.map GetD.val) := Option.some.inj e
    obtain ⟨e1, e2⟩ := Prod.mk.inj e
    have o : ob s = PySem.W.Hook.val hk w := by
      show ((ex (KK s) && ((fn.all fun d => d.ok (KK s)) && gt.all fun g => g.ok (KK s))), fn.map (fun d => He.fnW (KK s) d.at_), gt.map (gnW (KK s))) = (true, fn.map He.DefD.val, gt.map GetD.val)
      rw [c, d, e1, e2]
      rfl
    show some (_, _, _) = some (_, _, _)
    rw [a, b, o]
theorem runLk (w : World) (os : OsState) : (E0 w os).map (fun s => HandSHeadRun.looksF R.prog (PySem.W.boot_heap w.params) s.abs) = some true := by kernel_rfl
theorem runSn (w : World) (os : OsState) : (E0 w os).map (fun s => HandSHeadRun.seenQ (PySem.W.view R.prog [58]) names (importedModules R.prog.main.body) (fun s => PySem.W.xlAt (PySem.W.view R.prog [58]) [] s && PySem.W.recOk R.toRowW.records s) s.abs) = some (PySem.W.openGood (PySem.W.view R.prog [58]) names) := by kernel_rfl
theorem runA (w : World) (os : OsState) : (E0 w os).map (fun s => ex (KK s)) = some true := by kernel_rfl
theorem runB (w : World) (os : OsState) : (E0 w os).map (fun s => ((fn.all fun d => d.ok (KK s)) && gt.all fun g => g.ok (KK s))) = some true := by kernel_rfl
theorem runC (w : World) (os : OsState) : (E0 w os).map (fun s => (fn.map fun d => He.fnW (KK s) d.at_, gt.map (gnW (KK s)))) = some (fn.map He.DefD.val, gt.map GetD.val) := by kernel_rfl
theorem run (w : World) : HandSHeadRun.RunEq R (PySem.W.view R.prog [58]) hk ob 100000 names w := fun os => run_of (runLk w os) (runSn w os) (runA w os) (runB w os) (runC w os)
end K36

set_option Elab.async false
set_option linter.all false
set_option maxRecDepth 100000
set_option maxHeartbeats 2000000
namespace K36
open PySem PySem.Spec PyProof.Rows L2 Vf
abbrev OkF (P : Program) (w : World) (K : PySem.W.Frag) (mg : Str → Option Value) (base : Heap) (CX : CXT) (k : Nat) (x : Str) (ps : List Str) (sp : Sp) : Prop := OkD P w K mg base CX k (x, none) ps [] sp
abbrev OkM (P : Program) (w : World) (K : PySem.W.Frag) (mg : Str → Option Value) (base : Heap) (CX : CXT) (k : Nat) (c m : Str) (ps : List Str) (sp : Sp) : Prop := OkD P w K mg base CX k (c, some m) ps [] sp
abbrev FnD (K : PySem.W.Frag) (p : Pl) (x q : Str) (st : Stmt) (fd : FuncData) : Prop := FunD K x q (defArgs st) (defBody st) (defScope st) [] [] (He.fAd K p) fd
abbrev CP (K : PySem.W.Frag) : Addr := He.ga K "Place"
abbrev CBP (K : PySem.W.Frag) : Addr := He.ga K "BadPlace"
structure PTxt (K : PySem.W.Frag) (mg : Str → Option Value) : Prop where
  z_int : mg "int" = none
  z_bool : mg "bool" = none
  z_str : mg "str" = none
  z_len : mg "len" = none
  z_all : mg "all" = none
  z_isinstance : mg "isinstance" = none
  i_LONGEST_NAME : ∃ t, mg "LONGEST_NAME" = some (.int 8 t)
  i_MOST_TICKS : ∃ t, mg "MOST_TICKS" = some (.int 6 t)
  i_LETTERS : ∃ t, mg "LETTERS" = some (.str LET t)
  g_KEPT_WORDS : mg "KEPT_WORDS" = some (.ref (He.ga K "KEPT_WORDS"))
  t_KEPT : kTup K (He.ga K "KEPT_WORDS") KEPT = true
  g_is_integer : mg "is_integer" = some (.ref (He.ga K "is_integer"))
  g_is_integer_from : mg "is_integer_from" = some (.ref (He.ga K "is_integer_from"))
  g_is_flag : mg "is_flag" = some (.ref (He.ga K "is_flag"))
  g_is_name : mg "is_name" = some (.ref (He.ga K "is_name"))
  g_Place : mg "Place" = some (.ref (He.ga K "Place"))
  g_BadPlace : mg "BadPlace" = some (.ref (He.ga K "BadPlace"))
  c_Place : Cls K (He.ga K "Place")
  m_Place : Mk K (He.ga K "Place") (He.fAd K ("Place", some "__init__"))
  nN : NoAttr K (He.ga K "Place") "name"
  nL : NoAttr K (He.ga K "Place") "least"
  nM : NoAttr K (He.ga K "Place") "most"
  nT : NoAttr K (He.ga K "Place") "let"
  x_BadPlace : ExI K "BadPlace" "why"
  hn : PySem.W.specialIn K (.builtin "object.__class__") "__get__" = some (some (.builtin "getset_descriptor.__get__"))
  ht : PySem.W.takesIn K (.builtin "object.__class__") = some true
  ha : PySem.W.findIn K (.ref (He.ga K "Place")) "__class__" = some (some (.builtin "object.__class__"))
  hm : PySem.W.mroIn K (He.ga K "Place") (.type "object") = some true
  k1 : PySem.W.kitOne K (.ref (He.ga K "Place")) (.ref (He.ga K "Place")) = some true
/-! ### a place's fields -/
def plf (z : Str) (l m : Int) (b : Bool) : List (Str × V) := putF "let" (.bl b) (putF "most" (.int m) (putF "least" (.int l) (putF "name" (.str z) [])))
theorem plf_name (z : Str) (l m : Int) (b : Bool) : (plf z l m b).lookup ("name" : Str) = some (.str z) := by
  unfold plf
  rw [lookup_putF, if_neg (by decide +kernel), lookup_putF, if_neg (by decide +kernel), lookup_putF, if_neg (by decide +kernel), lookup_putF, if_pos rfl]
theorem plf_least (z : Str) (l m : Int) (b : Bool) : (plf z l m b).lookup ("least" : Str) = some (.int l) := by
  unfold plf
  rw [lookup_putF, if_neg (by decide +kernel), lookup_putF, if_neg (by decide +kernel), lookup_putF, if_pos rfl]
theorem plf_most (z : Str) (l m : Int) (b : Bool) : (plf z l m b).lookup ("most" : Str) = some (.int m) := by
  unfold plf
  rw [lookup_putF, if_neg (by decide +kernel), lookup_putF, if_pos rfl]
theorem plf_let (z : Str) (l m : Int) (b : Bool) : (plf z l m b).lookup ("let" : Str) = some (.bl b) := by
  unfold plf
  rw [lookup_putF, if_pos rfl]
/-- at p a place -/
def PlA (C : Addr) (H : Hp) (p : Addr) (z : Str) (l m : Int) (b : Bool) : Prop := ∃ dx, H p = some (.ins C dx (plf z l m b))
theorem PlA.ext {C : Addr} {H H' : Hp} {p : Addr} {z : Str} {l m : Int} {b : Bool} (h : PlA C H p z l m b) (s : Same H H') : PlA C H' p z l m b := by
  obtain ⟨dx, e⟩ := h
  exact ⟨dx, s _ _ e⟩
theorem same_new {H : Hp} {p : Addr} {o : HO} (h : H p = none) : Same H (upd H p o) := fun b u e => by
  rw [upd_ne (ne_of_none e h)]
  exact e
theorem same_make {H : Hp} {x dx : Addr} {o1 o2 : HO} (nx : H x = none) (ndx : H dx = none) : Same H (upd (upd H dx o1) x o2) := fun b o e => by
  rw [upd_ne (ne_of_none e nx), upd_ne (ne_of_none e ndx)]
  exact e
theorem same_make2 {H : Hp} {x dx : Addr} {o1 o2 o3 : HO} (nx : H x = none) (ndx : H dx = none) : Same H (upd (upd (upd H dx o1) x o2) x o3) := by
  rw [upd_upd]
  exact same_make nx ndx
theorem same_app {H H1 H2 : Hp} {D : Addr} {o : HO} (s : Same H H1) (s2 : Same H1 H2) (nD : H D = none) : Same H (upd H2 D o) := fun b u e => by
  rw [upd_ne (ne_of_none e nD)]
  exact s2 _ _ (s _ _ e)
section
variable {P : Program} {w : World} {K : PySem.W.Frag} {mg : Str → Option Value} {base : Heap}
theorem okd {CX : CXT} {k : Nat} {p : Pl} {x q : Str} {st : Stmt} {fd : FuncData} {ps : List Str} {sp : Sp} (F : FnD K p x q st fd) (ok : FnOk P w K mg base CX k (He.fAd K p) fd ps sp)
    (h : ∀ (kV doc pm : Value) (an : Option Addr) (cdv ct : Value) (us : List Value), us.length = ps.length → bindArgs (PySem.W.fnOf x q (defArgs st) (defBody st) (defScope st) .none kV doc pm an cdv ct) ⟨us, []⟩ = pure (ps.zip us)) : OkD P w K mg base CX k p ps [] sp :=
  ⟨⟨fd, [], ok, FunD.bindsN F h, .nil⟩, F.kp⟩
theorem sc_is_integer : FnScope ["x"] ["x"] (defScope s_is_integer) := ⟨rfl, rfl, rfl, by decide +kernel, rfl, by decide +kernel, by decide +kernel⟩
-- slots: 0 x
theorem ok_is_integer {fd : FuncData} (F : FnD K ("is_integer", none) "is_integer" "is_integer" s_is_integer fd) (T : PTxt K mg) : OkF P w K mg base CX0 1 "is_integer" ["x"] spIsInt := by
  refine okd F (F.ok sc_is_integer (fun vs H Q E h => ?_) fun cdv A outer s H vs Q E hr h => ⟨t_isint K, PSs.nox ?_, run_isint h⟩) fun _ _ _ _ _ _ us hl => match us, hl with | [_], _ => rfl
  · obtain ⟨x, rfl, _⟩ := h
    rfl
  · exact (pss_one (ps_ret (pe_and (pe_callB (id := "isinstance") call_isi (by rfl) T.z_isinstance (by decide +kernel) (pa_cons (pv 0) (pa_cons (pe_ty (n := "int") T.z_int (by decide +kernel)) pa_nil))) (pe_one (pe_not (pe_callB (id := "isinstance") call_isi (by rfl) T.z_isinstance (by decide +kernel) (pa_cons (pv 0) (pa_cons (pe_ty (n := "bool") T.z_bool (by decide +kernel)) pa_nil))))))))
theorem sc_is_integer_from : FnScope ["x", "low", "high"] ["x", "low", "high"] (defScope s_is_integer_from) := ⟨rfl, rfl, rfl, by decide +kernel, rfl, by decide +kernel, by decide +kernel⟩
-- slots: 0 x, 1 low, 2 high
/-- l is no integer from lo to hi -/
def NotFr (H : Hp) (l : V) (lo hi : Int) : Prop := (∃ n, l = .int n ∧ ¬ (lo ≤ n ∧ n ≤ hi)) ∨ Odd H l
def spFr : Sp := fun vs H Q _ => ∃ (x : V) (lo hi : Int), vs = [x, .int lo, .int hi] ∧ ((∃ n, x = .int n ∧ lo ≤ n ∧ n ≤ hi ∧ Q (.bl true) H) ∨ (NotFr H x lo hi ∧ Q (.bl false) H))
theorem ok_is_integer_from {fd : FuncData} (F : FnD K ("is_integer_from", none) "is_integer_from" "is_integer_from" s_is_integer_from fd) (T : PTxt K mg) (O_is_integer : OkF P w K mg base CX0 1 "is_integer" ["x"] spIsInt) : OkF P w K mg base CX0 2 "is_integer_from" ["x", "low", "high"] spFr := by
  refine okd F (F.ok sc_is_integer_from (fun vs H Q E h => ?_) fun cdv A outer s H vs Q E hr h => ?_) fun _ _ _ _ _ _ us hl => match us, hl with | [_, _, _], _ => rfl
  · obtain ⟨x, lo, hi, rfl, _⟩ := h
    rfl
  · obtain ⟨x, lo, hi, rfl, h⟩ := h
    refine ⟨_, PSs.nox (pss_one (ps_ret (pe_and (c_fn O_is_integer hr (by decide) T.g_is_integer pass0 (pa_cons (pv 0) pa_nil)) (pe_one (pe_chain op_le op_le (pv 1) (pv 0) (pv 2)))))), ?_⟩
    rcases h with ⟨n, rfl, l1, l2, q⟩ | ⟨⟨n, rfl, hn⟩ | o, q⟩
    · refine ⟨_, rfl, _, rfl, .inl ⟨⟨n, rfl⟩, true, rfl, iteT ?_⟩⟩
      refine ⟨_, rfl, _, rfl, lo, n, rfl, rfl, true, congrArg V.bl (decide_eq_true l1), iteT ⟨_, rfl, n, hi, rfl, rfl, ?_⟩⟩
      show Q (.bl (decide (n ≤ hi))) H
      rw [decide_eq_true l2]
      exact q
    · refine ⟨_, rfl, _, rfl, .inl ⟨⟨n, rfl⟩, true, rfl, iteT ?_⟩⟩
      by_cases l1 : lo ≤ n
      · have l2 : ¬ n ≤ hi := fun z => hn ⟨l1, z⟩
        refine ⟨_, rfl, _, rfl, lo, n, rfl, rfl, true, congrArg V.bl (decide_eq_true l1), iteT ⟨_, rfl, n, hi, rfl, rfl, ?_⟩⟩
        show Q (.bl (decide (n ≤ hi))) H
        rw [decide_eq_false l2]
        exact q
      · exact ⟨_, rfl, _, rfl, lo, n, rfl, rfl, false, congrArg V.bl (decide_eq_false l1), iteF q⟩
    · exact ⟨_, rfl, _, rfl, .inr ⟨o, false, rfl, iteF q⟩⟩
theorem sc_is_flag : FnScope ["x"] ["x"] (defScope s_is_flag) := ⟨rfl, rfl, rfl, by decide +kernel, rfl, by decide +kernel, by decide +kernel⟩
-- slots: 0 x
def spFlag : Sp := fun vs H Q _ => ∃ x, vs = [x] ∧ ((∃ b, x = .bl b ∧ Q (.bl true) H) ∨ (OddB H x ∧ Q (.bl false) H))
theorem ok_is_flag {fd : FuncData} (F : FnD K ("is_flag", none) "is_flag" "is_flag" s_is_flag fd) (T : PTxt K mg) : OkF P w K mg base CX0 1 "is_flag" ["x"] spFlag := by
  refine okd F (F.ok sc_is_flag (fun vs H Q E h => ?_) fun cdv A outer s H vs Q E hr h => ?_) fun _ _ _ _ _ _ us hl => match us, hl with | [_], _ => rfl
  · obtain ⟨x, rfl, _⟩ := h
    rfl
  · obtain ⟨x, rfl, h⟩ := h
    refine ⟨_, PSs.nox (pss_one (ps_ret (pe_callB (id := "isinstance") call_isi (by rfl) T.z_isinstance (by decide +kernel) (pa_cons (pv 0) (pa_cons (pe_ty (n := "bool") T.z_bool (by decide +kernel)) pa_nil))))), ?_⟩
    rcases h with ⟨b, rfl, q⟩ | ⟨o, q⟩
    · exact ⟨_, rfl, .bl b, .ty "bool", .type "bool", .type "bool", true, rfl, .ty _, .base (.bl _), kit_ty (by decide +kernel), q⟩
    · obtain ⟨n, t1, k1⟩ := oddB_ty K o
      exact ⟨_, rfl, x, .ty "bool", .type n, .type "bool", false, rfl, .ty _, t1, kit_ty k1, q⟩
theorem sc_is_name : FnScope ["x", "letter"] ["x"] (defScope s_is_name) := ⟨rfl, rfl, rfl, by decide +kernel, rfl, by decide +kernel, by decide +kernel⟩
-- slots: 0 x, 1 letter
/-- a text that is a name -/
def nmB (z : Str) : Bool := decide (1 ≤ z.length) && (decide (z.length ≤ 8) && (!inV (.str z) (KEPT.map V.str) && z.cps.toList.all fun c => decide (c ∈ LET.cps.toList)))
def spName : Sp := fun vs H Q _ => ∃ x, vs = [x] ∧ ((∃ z, x = .str z ∧ z.length ≤ sizeLine ∧ ∀ H', Same H H' → Q (.bl (nmB z)) H') ∨ (OddS H x ∧ Q (.bl false) H))
theorem ok_is_name {fd : FuncData} (F : FnD K ("is_name", none) "is_name" "is_name" s_is_name fd) (T : PTxt K mg) : OkF P w K mg base CX0 1 "is_name" ["x"] spName := by
  refine okd F (F.ok sc_is_name (fun vs H Q E h => ?_) fun cdv A outer s H vs Q E hr h => ?_) fun _ _ _ _ _ _ us hl => match us, hl with | [_], _ => rfl
  · obtain ⟨x, rfl, _⟩ := h
    rfl
  · obtain ⟨x, rfl, h⟩ := h
    refine ⟨_, PSs.nox (pss_cons (ps_if (PW.pt (pw_or (pt_not (pt_val (pe_callB (id := "isinstance") call_isi (by rfl) T.z_isinstance (by decide +kernel) (pa_cons (pv 0) (pa_cons (pe_ty (n := "str") T.z_str (by decide +kernel)) pa_nil))))) (pw_or1 (pt_not (pt_chain op_le op_le pe_int (pe_callB call_len_str (by rfl) T.z_len (by decide +kernel) (pa_cons (pv 0) pa_nil)) (c_gint T.i_LONGEST_NAME)))))) (pss_one (ps_ret pe_bl))
  pss_nil)
  (pss_one (ps_ret (pe_and (pe_cmpR op_notIn_seq (pv 0) (pe_cl T.g_KEPT_WORDS) rfl) (pe_one (pe_callB (id := "all") (cr_all rfl) (by rfl) T.z_all (by decide +kernel) (pa_cons (pe_lc (own := [("letter", 1)]) (g := gName 1) (tt := tYes) (by rfl) sc_is_name.nd (pi_str (pv 0)) (blkOk_by (N := ["x", "letter"]) (sc := defScope s_is_name) (by decide +kernel)) (fun _ _ _ _ _ => (pg_name (i := 1) sc_is_name.nd rfl (Or.inl rfl))) (fun _ _ _ _ _ => pts_nil) (fun _ _ _ _ _ => (pe_cmpR op_in_str (pv 1) (c_gstr T.i_LETTERS) rfl))) pa_nil))))))), ?_⟩
    rcases h with ⟨z, rfl, hz, k⟩ | ⟨o, q⟩
    · refine ⟨_, rfl, .str z, .ty "str", .type "str", .type "str", true, rfl, .ty _, .base (.str _), kit_ty (by decide +kernel), true, rfl, iteF ?_⟩
      have go : ∀ b : Bool, nmB z = b → ∀ H', Same H H' → Q (.bl b) H' := fun b e H' s => e ▸ k H' s
      by_cases l1 : (1 : Int) ≤ z.length
      · by_cases l2 : (z.length : Int) ≤ 8
        · refine ⟨_, rfl, z, rfl, hz, 1, z.length, rfl, rfl, true, congrArg V.bl (decide_eq_true l1), iteT ⟨z.length, 8, rfl, rfl, true, congrArg V.bl (decide_eq_true l2), iteF ?_⟩⟩
          refine ⟨_, rfl, _, _, rfl, .inr (kTup_ok T.t_KEPT _), rfl, by decide +kernel, _, rfl, ?_⟩
          have e1 : decide (1 ≤ z.length) = true := decide_eq_true (by omega)
          have e2 : decide (z.length ≤ 8) = true := decide_eq_true (by omega)
          unfold nmB at go
          rw [e1, e2, Bool.true_and, Bool.true_and] at go
          show if (!inV (.str z) (KEPT.map V.str)) = true then _ else _
          cases hv : inV (.str z) (KEPT.map V.str) with
          | true =>
            rw [hv] at go
            exact iteF (go false rfl _ fun _ _ h => h)
          | false =>
            rw [hv] at go
            refine iteT ?_
            refine ⟨_, rfl, z, rfl, fun D nD => lc_it walk_str (fun i H' => Same H H' ∧ H' D = some (.lst ((z.cps.toList.take i).map fun c => V.bl (decide (c ∈ LET.cps.toList))))) ⟨same_new nD, upd_same⟩ (fun _ _ _ _ => trivial) ?_ ?_⟩
            · rintro i x H1 H' hi ⟨sg, hD⟩ ⟨rfl, c, hc, rfl⟩
              have hc2 : z.cps.toList[i]? = some c := by simpa using hc
              refine ⟨rfl, _, rfl, _, _, rfl, rfl, ?_⟩
              refine ⟨_, hD, ?_, same_app sg (Same.refl _) nD, ?_⟩
              · rw [List.length_map, List.length_take]
                have hl : z.cps.toList.length = z.length := by simp [Str.length]
                have : min i z.cps.toList.length < 9 := by omega
                exact Nat.lt_of_lt_of_le this (by decide)
              · rw [upd_same, sign_in, List.take_add_one, List.map_append, hc2]
                rfl
            · rintro H' ⟨sg, hD⟩
              have hD2 : H' D = some (.lst ((z.cps.toList.map fun c => decide (c ∈ LET.cps.toList)).map V.bl)) := by
                rw [hD, List.map_map, List.take_of_length_le (by simp)]
                rfl
              refine ⟨D, _, rfl, SqL.of hD2, go _ ?_ _ sg⟩
              rw [List.all_map]
              rfl
        · refine ⟨_, rfl, z, rfl, hz, 1, z.length, rfl, rfl, true, congrArg V.bl (decide_eq_true l1), iteT ⟨z.length, 8, rfl, rfl, false, congrArg V.bl (decide_eq_false l2), iteT ?_⟩⟩
          refine go false ?_ _ fun _ _ h => h
          unfold nmB
          rw [show decide (z.length ≤ 8) = false from decide_eq_false (by omega)]
          simp
      · refine ⟨_, rfl, z, rfl, hz, 1, z.length, rfl, rfl, false, congrArg V.bl (decide_eq_false l1), iteF ⟨false, rfl, iteT ?_⟩⟩
        refine go false ?_ _ fun _ _ h => h
        unfold nmB
        rw [show decide (1 ≤ z.length) = false from decide_eq_false (by omega)]
        simp
    · obtain ⟨n, t1, k1⟩ := oddS_ty K o
      exact ⟨_, rfl, x, .ty "str", .type n, .type "str", false, rfl, .ty _, t1, kit_ty k1, false, rfl, iteT q⟩
end
end K36

set_option Elab.async false
set_option linter.all false
set_option pp.deepTerms.threshold 14
set_option pp.maxSteps 2500
set_option maxRecDepth 100000
set_option maxHeartbeats 2000000
namespace K36
open PySem PySem.Spec PyProof.Rows L2 Vf
section
variable {P : Program} {w : World} {K : PySem.W.Frag} {mg : Str → Option Value} {base : Heap}
theorem sc_BadPlace_init : FnScope ["self", "why"] ["self", "why"] (defScope s_BadPlace_init) := ⟨rfl, rfl, rfl, by decide +kernel, rfl, by decide +kernel, by decide +kernel⟩
-- slots: 0 self, 1 why
theorem ok_BadPlace_init {fd : FuncData} (F : FnD K ("BadPlace", some "__init__") "__init__" "BadPlace.__init__" s_BadPlace_init fd) : OkD P w K mg base CX0 1 ("BadPlace", some "__init__") ["self", "why"] [] (spExI K (CBP K) "why") := by
  refine okd F (F.ok sc_BadPlace_init (fun vs H Q E h => ?_) fun cdv A outer s H vs Q E hr h => ⟨tOst K "why" (tVar 0) (tVar 1), PSs.nox ?_, run_exI h⟩) fun _ _ _ _ _ _ us hl => match us, hl with | [_, _], _ => rfl
  · obtain ⟨a, v, rfl, _⟩ := h
    rfl
  · exact pss_one (ps_ost (pv 0) (pv 1))
/-- what a place is made of -/
inductive PlIn (H : Hp) (x l m t : V) : Str → Prop where
  | name (h : (∃ z, x = .str z ∧ z.length ≤ sizeLine ∧ nmB z = false) ∨ OddS H x) : PlIn H x l m t "name"
  | least (z : Str) (hx : x = .str z) (hz : z.length ≤ sizeLine) (hn : nmB z = true) (h : NotFr H l 1 6) : PlIn H x l m t "least"
  | most (z : Str) (hx : x = .str z) (hz : z.length ≤ sizeLine) (hn : nmB z = true) (n : Int) (hl : l = .int n) (n1 : 1 ≤ n) (n2 : n ≤ 6) (hm : m ≠ .non) (h : NotFr H m n 6) : PlIn H x l m t "most"
  | let_ (z : Str) (hx : x = .str z) (hz : z.length ≤ sizeLine) (hn : nmB z = true) (n : Int) (hl : l = .int n) (n1 : 1 ≤ n) (n2 : n ≤ 6) (hm : m = .non ∨ ∃ k : Int, m = .int k ∧ n ≤ k ∧ k ≤ 6) (h : OddB H t) : PlIn H x l m t "let"
/-- the parts of a place that is made -/
def PlOk (x l m t : V) (z : Str) (n k : Int) (b : Bool) : Prop := x = .str z ∧ z.length ≤ sizeLine ∧ nmB z = true ∧ l = .int n ∧ 1 ≤ n ∧ n ≤ k ∧ k ≤ 6 ∧ (m = .int k ∨ (m = .non ∧ k = n)) ∧ t = .bl b
theorem Odd.same {H H' : Hp} {x : V} (o : Odd H x) (s : Same H H') : Odd H' x := o.ext s
theorem oddB_ext {H H' : Hp} {x : V} (o : OddB H x) (s : Same H H') : OddB H' x := by
  cases o with
  | str z => exact .str z
  | non => exact .non
  | int i => exact .int i
  | tup h => exact .tup (s _ _ h)
  | lst h => exact .lst (s _ _ h)
  | dic h => exact .dic (s _ _ h)
theorem NotFr.ext {H H' : Hp} {x : V} {lo hi : Int} (o : NotFr H x lo hi) (s : Same H H') : NotFr H' x lo hi := o.elim .inl fun o => .inr (o.ext s)
def spPlI (K : PySem.W.Frag) : Sp := fun vs H Q E => ∃ (p dx : Addr) (x l m t : V), vs = [.ref p, x, l, m, t] ∧ H p = some (.ins (CP K) dx []) ∧
  ((∃ w, PlIn H x l m t w ∧ ∀ H' d, Same H H' → H' d = none → E (.ref (CBP K)) (some d) (upd H' d (.xd [("why", .str w)]))) ∨
   (∃ z n k b, PlOk x l m t z n k b ∧ ∀ H', Same H H' → Q .non (upd H' p (.ins (CP K) dx (plf z n k b)))))
theorem sc_Place_init : FnScope ["self", "name", "least", "most", "let"] ["self", "name", "least", "most", "let"] (defScope s_Place_init) := ⟨rfl, rfl, rfl, by decide +kernel, rfl, by decide +kernel, by decide +kernel⟩
-- slots: 0 self, 1 name, 2 least, 3 most, 4 let
theorem ok_Place_init {fd : FuncData} (F : FunD K "__init__" "Place.__init__" (defArgs s_Place_init) (defBody s_Place_init) (defScope s_Place_init) [.int 1, .non] [("let", .bl true)] (He.fAd K ("Place", some "__init__")) fd) (T : PTxt K mg)
    (O_is_name : OkF P w K mg base CX0 1 "is_name" ["x"] spName) (O_is_integer_from : OkF P w K mg base CX0 2 "is_integer_from" ["x", "low", "high"] spFr) (O_is_flag : OkF P w K mg base CX0 1 "is_flag" ["x"] spFlag)
    (O_BadPlace_init : OkD P w K mg base CX0 1 ("BadPlace", some "__init__") ["self", "why"] [] (spExI K (CBP K) "why")) :
    FnOk P w K mg base (L2.CX P w) 4 (He.fAd K ("Place", some "__init__")) fd ["self", "name", "least", "most", "let"] (spPlI K) := by
  refine F.ok sc_Place_init (fun vs H Q E h => ?_) fun cdv A outer s H vs Q E hr h => ?_
  · obtain ⟨p, dx, x, l, m, t, rfl, _⟩ := h
    rfl
  · obtain ⟨p, dx, x, l, m, t, rfl, hp, h⟩ := h
    refine ⟨_, (pss_cons (ps_if (pt_not (pt_val (c_fn O_is_name hr (by decide) T.g_is_name pass0 (pa_cons (pv 1) pa_nil)))) (pss_one (c_raise T.x_BadPlace O_BadPlace_init hr (by decide) T.g_BadPlace (takes_of rfl rfl rfl rfl) (pa_cons pe_str pa_nil)))
  pss_nil)
  (pss_cons (ps_if (pt_not (pt_val (c_fn O_is_integer_from hr (by decide) T.g_is_integer_from pass0 (pa_cons (pv 2) (pa_cons pe_int (pa_cons (c_gint T.i_MOST_TICKS) pa_nil)))))) (pss_one (c_raise T.x_BadPlace O_BadPlace_init hr (by decide) T.g_BadPlace (takes_of rfl rfl rfl rfl) (pa_cons pe_str pa_nil)))
  pss_nil)
  (pss_cons (ps_if (PW.pt (pw_and (pt_cmpR op_notN (pv 3) pe_non (nomark _)) (pw_and1 (pt_not (pt_val (c_fn O_is_integer_from hr (by decide) T.g_is_integer_from pass0 (pa_cons (pv 3) (pa_cons (pv 2) (pa_cons (c_gint T.i_MOST_TICKS) pa_nil))))))))) (pss_one (c_raise T.x_BadPlace O_BadPlace_init hr (by decide) T.g_BadPlace (takes_of rfl rfl rfl rfl) (pa_cons pe_str pa_nil)))
  pss_nil)
  (pss_cons (ps_if (pt_not (pt_val (c_fn O_is_flag hr (by decide) T.g_is_flag pass0 (pa_cons (pv 4) pa_nil)))) (pss_one (c_raise T.x_BadPlace O_BadPlace_init hr (by decide) T.g_BadPlace (takes_of rfl rfl rfl rfl) (pa_cons pe_str pa_nil)))
  pss_nil)
  (pss_cons (ps_fld (pv 0) (pv 1) rfl)
  (pss_cons (ps_fld (pv 0) (pv 2) rfl)
  (pss_cons (ps_fld (pv 0) (pe_ifExp (pt_cmpR op_isN (pv 3) pe_non (nomark _)) (pv 2) (pv 3)) rfl)
  (pss_one (ps_fld (pv 0) (pv 4) rfl))))))))), ?_⟩
    rcases h with ⟨w, hi, k⟩ | ⟨z, n, kk, b, ⟨rfl, hz, hn, rfl, n1, n2, n3, hm, rfl⟩, k⟩
    · cases hi with
      | name h =>
        rcases h with ⟨z, rfl, hz, hn⟩ | o
        · refine ⟨_, rfl, _, rfl, .inl ⟨z, rfl, hz, fun H1 s1 => ⟨false, by rw [hn], iteT ⟨_, rfl, fun d hd => k H1 d s1 hd⟩⟩⟩⟩
        · exact ⟨_, rfl, _, rfl, .inr ⟨o, false, rfl, iteT ⟨_, rfl, fun d hd => k H d (Same.refl _) hd⟩⟩⟩
      | least z hx hz hn h =>
        subst hx
        refine ⟨_, rfl, _, rfl, .inl ⟨z, rfl, hz, fun H1 s1 => ⟨true, by rw [hn], iteF ?_⟩⟩⟩
        exact ⟨_, rfl, _, _, _, rfl, .inr ⟨h.ext s1, false, rfl, iteT ⟨_, rfl, fun d hd => k H1 d s1 hd⟩⟩⟩
      | most z hx hz hn n hl n1 n2 hm h =>
        subst hx hl
        refine ⟨_, rfl, _, rfl, .inl ⟨z, rfl, hz, fun H1 s1 => ⟨true, by rw [hn], iteF ?_⟩⟩⟩
        refine ⟨_, rfl, _, _, _, rfl, .inl ⟨n, rfl, n1, n2, true, rfl, iteF ?_⟩⟩
        exact ⟨_, rfl, rfl, true, by rw [decide_eq_false hm]; rfl, iteT ⟨_, rfl, _, rfl, _, _, _, rfl, .inr ⟨h.ext s1, false, rfl, iteT ⟨_, rfl, fun d hd => k H1 d s1 hd⟩⟩⟩⟩
      | let_ z hx hz hn n hl n1 n2 hm h =>
        subst hx hl
        refine ⟨_, rfl, _, rfl, .inl ⟨z, rfl, hz, fun H1 s1 => ⟨true, by rw [hn], iteF ?_⟩⟩⟩
        refine ⟨_, rfl, _, _, _, rfl, .inl ⟨n, rfl, n1, n2, true, rfl, iteF ?_⟩⟩
        have fin := fun d hd => k H1 d s1 hd
        rcases hm with rfl | ⟨kk, rfl, k1, k2⟩
        · exact ⟨_, rfl, rfl, false, rfl, iteF ⟨_, rfl, _, rfl, .inr ⟨oddB_ext h s1, false, rfl, iteT ⟨_, rfl, fin⟩⟩⟩⟩
        · exact ⟨_, rfl, rfl, true, rfl, iteT ⟨_, rfl, _, rfl, _, _, _, rfl, .inl ⟨kk, rfl, k1, k2, true, rfl, iteF ⟨_, rfl, _, rfl, .inr ⟨oddB_ext h s1, false, rfl, iteT ⟨_, rfl, fin⟩⟩⟩⟩⟩⟩
    · refine ⟨_, rfl, _, rfl, .inl ⟨z, rfl, hz, fun H1 s1 => ⟨true, by rw [hn], iteF ?_⟩⟩⟩
      refine ⟨_, rfl, _, _, _, rfl, .inl ⟨n, rfl, n1, by omega, true, rfl, iteF ?_⟩⟩
      have hp1 := s1 _ _ hp
      have z0 : (0 : Nat) < 1000 := by decide
      have fin := k H1 s1
      rcases hm with rfl | ⟨rfl, rfl⟩
      · refine ⟨_, rfl, rfl, true, rfl, iteT ⟨_, rfl, _, rfl, _, _, _, rfl, .inl ⟨kk, rfl, n2, n3, true, rfl, iteF ⟨_, rfl, _, rfl, .inl ⟨b, rfl, true, rfl, iteF ?_⟩⟩⟩⟩⟩
        refine ⟨_, rfl, _, rfl, p, _, dx, [], rfl, hp1, T.c_Place, T.nN, (by show 0 < 1000; decide), ?_⟩
        refine ⟨_, rfl, _, rfl, p, _, dx, _, rfl, upd_same, T.c_Place, T.nL, (by show 1 < 1000; decide), ?_⟩
        rw [upd_upd]
        refine ⟨_, rfl, rfl, false, rfl, iteF ⟨_, rfl, _, rfl, p, _, dx, _, rfl, upd_same, T.c_Place, T.nM, (by show 2 < 1000; decide), ?_⟩⟩
        rw [upd_upd]
        refine ⟨_, rfl, _, rfl, p, _, dx, _, rfl, upd_same, T.c_Place, T.nT, (by show 3 < 1000; decide), ?_⟩
        rw [upd_upd]
        exact fin
      · refine ⟨_, rfl, rfl, false, rfl, iteF ⟨_, rfl, _, rfl, .inl ⟨b, rfl, true, rfl, iteF ?_⟩⟩⟩
        refine ⟨_, rfl, _, rfl, p, _, dx, [], rfl, hp1, T.c_Place, T.nN, (by show 0 < 1000; decide), ?_⟩
        refine ⟨_, rfl, _, rfl, p, _, dx, _, rfl, upd_same, T.c_Place, T.nL, (by show 1 < 1000; decide), ?_⟩
        rw [upd_upd]
        refine ⟨_, rfl, rfl, true, rfl, iteT ⟨_, rfl, _, rfl, p, _, dx, _, rfl, upd_same, T.c_Place, T.nM, (by show 2 < 1000; decide), ?_⟩⟩
        rw [upd_upd]
        refine ⟨_, rfl, _, rfl, p, _, dx, _, rfl, upd_same, T.c_Place, T.nT, (by show 3 < 1000; decide), ?_⟩
        rw [upd_upd]
        exact fin
/-- Place(name, least, most, let=t); the shorter ones -/
theorem O_Place3k {fd : FuncData} (F : FunD K "__init__" "Place.__init__" (defArgs s_Place_init) (defBody s_Place_init) (defScope s_Place_init) [.int 1, .non] [("let", .bl true)] (He.fAd K ("Place", some "__init__")) fd) (G : FnOk P w K mg base (L2.CX P w) 4 (He.fAd K ("Place", some "__init__")) fd ["self", "name", "least", "most", "let"] (spPlI K)) :
    OkK P w K mg base (L2.CX P w) 4 ("Place", some "__init__") ["self", "name", "least", "most", "let"] 4 ["let"] (fun vs zs => vs ++ zs) (spPlI K) := by
  obtain ⟨its, mv, b⟩ := F.kbinds (ps := ["self", "name", "least", "most", "let"]) 4 ["let"] [] (fun us _ _ ws => us ++ ws) (by decide) (by decide) (fun _ h => nomatch h) (fun r1 _ _ r4 => r1.append r4)
    fun T D doc pm an cdv ct us its mv ws h1 h2 h3 h4 => match us, its, mv, ws, h1, h2, h3, h4 with | [_, _, _, _], [_, _], [], [_], _, _, _, _ => ⟨_, rfl, rfl⟩
  exact ⟨fd, _, G, b⟩
theorem O_Place2 {fd : FuncData} (F : FunD K "__init__" "Place.__init__" (defArgs s_Place_init) (defBody s_Place_init) (defScope s_Place_init) [.int 1, .non] [("let", .bl true)] (He.fAd K ("Place", some "__init__")) fd) (G : FnOk P w K mg base (L2.CX P w) 4 (He.fAd K ("Place", some "__init__")) fd ["self", "name", "least", "most", "let"] (spPlI K)) :
    OkK P w K mg base (L2.CX P w) 4 ("Place", some "__init__") ["self", "name", "least", "most", "let"] 3 [] (fun vs _ => vs ++ [.non, .bl true]) (spPlI K) := by
  obtain ⟨its, mv, b⟩ := F.kbinds (ps := ["self", "name", "least", "most", "let"]) 3 [] [("let", .bl true)] (fun us its mv _ => us ++ (its.drop 1 ++ mv)) (by decide) (by decide) (fun _ h => h) (fun r1 r2 r3 _ => r1.append ((r2.drop 1).append r3))
    fun T D doc pm an cdv ct us its mv ws h1 h2 h3 h4 => match us, its, mv, ws, h1, h2, h3, h4 with | [_, _, _], [_, _], [_], [], _, _, _, _ => ⟨_, rfl, _, _, _, _, _, _, rfl, rfl, rfl⟩
  exact ⟨fd, _, G, b⟩
theorem O_Place1 {fd : FuncData} (F : FunD K "__init__" "Place.__init__" (defArgs s_Place_init) (defBody s_Place_init) (defScope s_Place_init) [.int 1, .non] [("let", .bl true)] (He.fAd K ("Place", some "__init__")) fd) (G : FnOk P w K mg base (L2.CX P w) 4 (He.fAd K ("Place", some "__init__")) fd ["self", "name", "least", "most", "let"] (spPlI K)) :
    OkK P w K mg base (L2.CX P w) 4 ("Place", some "__init__") ["self", "name", "least", "most", "let"] 2 [] (fun vs _ => vs ++ [.int 1, .non, .bl true]) (spPlI K) := by
  obtain ⟨its, mv, b⟩ := F.kbinds (ps := ["self", "name", "least", "most", "let"]) 2 [] [("let", .bl true)] (fun us its mv _ => us ++ (its ++ mv)) (by decide) (by decide) (fun _ h => h) (fun r1 r2 r3 _ => r1.append (r2.append r3))
    fun T D doc pm an cdv ct us its mv ws h1 h2 h3 h4 => match us, its, mv, ws, h1, h2, h3, h4 with | [_, _], [_, _], [_], [], _, _, _, _ => ⟨_, rfl, _, _, _, _, _, _, rfl, rfl, rfl⟩
  exact ⟨fd, _, G, b⟩
theorem sc_Place_eq : FnScope ["self", "other"] ["self", "other"] (defScope s_Place_eq) := ⟨rfl, rfl, rfl, by decide +kernel, rfl, by decide +kernel, by decide +kernel⟩
-- slots: 0 self, 1 other
def plB (z z' : Str) (l l' m m' : Int) (b b' : Bool) : Bool := decide (z = z') && (decide (l = l') && (decide (m = m') && decide (b = b')))
def spPlE (C : Addr) : Sp := fun vs H Q _ => ∃ (p q : Addr) (z z' : Str) (l l' m m' : Int) (b b' : Bool), vs = [.ref p, .ref q] ∧ PlA C H p z l m b ∧ PlA C H q z' l' m' b' ∧ Q (.bl (plB z z' l l' m m' b b')) H
theorem str_dec (a c : Str) : decide (V.str a = V.str c) = decide (a = c) := decide_eq_decide.mpr ⟨fun h => V.str.inj h, fun h => by rw [h]⟩
theorem int_dec (a c : Int) : decide (V.int a = V.int c) = decide (a = c) := decide_eq_decide.mpr ⟨fun h => V.int.inj h, fun h => by rw [h]⟩
theorem bl_dec (a c : Bool) : decide (V.bl a = V.bl c) = decide (a = c) := decide_eq_decide.mpr ⟨fun h => V.bl.inj h, fun h => by rw [h]⟩
theorem ok_Place_eq {fd : FuncData} (F : FnD K ("Place", some "__eq__") "__eq__" "Place.__eq__" s_Place_eq fd) (T : PTxt K mg) : OkM P w K mg base CX0 1 "Place" "__eq__" ["self", "other"] (spPlE (CP K)) := by
  refine okd F (F.ok sc_Place_eq (fun vs H Q E h => ?_) fun cdv A outer s H vs Q E hr h => ?_) fun _ _ _ _ _ _ us hl => match us, hl with | [_, _], _ => rfl
  · obtain ⟨p, q, z, z', l, l', m, m', b, b', rfl, _⟩ := h
    rfl
  · obtain ⟨p, q, z, z', l, l', m, m', b, b', rfl, ⟨dx, hp⟩, ⟨dy, hq⟩, k⟩ := h
    refine ⟨_, PSs.nox (pss_one (ps_ret (pe_and (pe_callB (id := "isinstance") call_isi (by rfl) T.z_isinstance (by decide +kernel) (pa_cons (pv 1) (pa_cons (pe_cl T.g_Place) pa_nil))) (pe_and (pe_cmpR op_eq (pe_fld (pv 0) rfl) (pe_fld (pv 1) rfl) (nomark _)) (pe_and (pe_cmpR op_eq (pe_fld (pv 0) rfl) (pe_fld (pv 1) rfl) (nomark _)) (pe_and (pe_cmpR op_eq (pe_fld (pv 0) rfl) (pe_fld (pv 1) rfl) (nomark _)) (pe_one (pe_cmpR op_eq (pe_fld (pv 0) rfl) (pe_fld (pv 1) rfl) (nomark _))))))))), ?_⟩
    refine ⟨_, rfl, .ref q, .ref (CP K), .ref (CP K), .ref (CP K), true, rfl, .own _, .base (.ins hq T.c_Place T.ha T.hn T.ht T.hm), T.k1, true, rfl, iteT ?_⟩
    unfold plB at k
    rw [← str_dec, ← int_dec, ← int_dec, ← bl_dec] at k
    refine ⟨_, rfl, p, _, dx, _, _, rfl, hp, T.c_Place, T.nN, plf_name .., _, rfl, q, _, dy, _, _, rfl, hq, T.c_Place, T.nN, plf_name .., rfl, _, rfl, ?_⟩
    cases e1 : decide (V.str z = V.str z') with
    | false =>
      rw [e1] at k
      exact iteF k
    | true =>
      rw [e1] at k
      refine iteT ⟨_, rfl, p, _, dx, _, _, rfl, hp, T.c_Place, T.nL, plf_least .., _, rfl, q, _, dy, _, _, rfl, hq, T.c_Place, T.nL, plf_least .., rfl, _, rfl, ?_⟩
      cases e2 : decide (V.int l = V.int l') with
      | false =>
        rw [e2] at k
        exact iteF k
      | true =>
        rw [e2] at k
        refine iteT ⟨_, rfl, p, _, dx, _, _, rfl, hp, T.c_Place, T.nM, plf_most .., _, rfl, q, _, dy, _, _, rfl, hq, T.c_Place, T.nM, plf_most .., rfl, _, rfl, ?_⟩
        cases e3 : decide (V.int m = V.int m') with
        | false =>
          rw [e3] at k
          exact iteF k
        | true =>
          rw [e3] at k
          exact iteT ⟨_, rfl, p, _, dx, _, _, rfl, hp, T.c_Place, T.nT, plf_let .., _, rfl, q, _, dy, _, _, rfl, hq, T.c_Place, T.nT, plf_let .., rfl, k⟩
end
end K36

set_option Elab.async false
set_option linter.all false
set_option pp.deepTerms.threshold 14
set_option pp.maxSteps 2500
set_option maxRecDepth 100000
set_option maxHeartbeats 2000000
namespace K36
open PySem PySem.Spec PyProof.Rows L2 Vf
section
variable {P : Program} {w : World} {K : PySem.W.Frag} {mg : Str → Option Value} {base : Heap}
structure GTxt (K : PySem.W.Frag) (mg : Str → Option Value) : Prop extends PTxt K mg where
  z_enumerate : mg "enumerate" = none
  z_list : mg "list" = none
  z_tuple : mg "tuple" = none
  z_dict : mg "dict" = none
  i_MOST_PLACES : ∃ t, mg "MOST_PLACES" = some (.int 6 t)
  g_has_twins : mg "has_twins" = some (.ref (He.ga K "has_twins"))
  g_is_one_of : mg "is_one_of" = some (.ref (He.ga K "is_one_of"))
  g_are_places : mg "are_places" = some (.ref (He.ga K "are_places"))
  g_are_nexts : mg "are_nexts" = some (.ref (He.ga K "are_nexts"))
  g_is_choice : mg "is_choice" = some (.ref (He.ga K "is_choice"))
  g_Program : mg "Program" = some (.ref (He.ga K "Program"))
  g_BadProgram : mg "BadProgram" = some (.ref (He.ga K "BadProgram"))
  g_NoPlace : mg "NoPlace" = some (.ref (He.ga K "NoPlace"))
  c_Program : Cls K (He.ga K "Program")
  m_Program : Mk K (He.ga K "Program") (He.fAd K ("Program", some "__init__"))
  nA : NoAttr K (He.ga K "Program") "names"
  nB : NoAttr K (He.ga K "Program") "start"
  nC : NoAttr K (He.ga K "Program") "_places"
  nD : NoAttr K (He.ga K "Program") "_nexts"
  x_BadProgram : ExI K "BadProgram" "why"
  x_NoPlace : ExI K "NoPlace" "name"
  pa : PySem.W.findIn K (.ref (He.ga K "Program")) "__class__" = some (some (.builtin "object.__class__"))
  pm : PySem.W.mroIn K (He.ga K "Program") (.type "object") = some true
  pk : PySem.W.kitOne K (.ref (He.ga K "Program")) (.ref (He.ga K "Program")) = some true
abbrev CG (K : PySem.W.Frag) : Addr := He.ga K "Program"
abbrev CBG (K : PySem.W.Frag) : Addr := He.ga K "BadProgram"
theorem pe_fldK {X : Cx} {K : PySem.W.Frag} {e : Expr} {f : Str} {pos : Pos} {ta : TE} (hK : X.K = K) (he : PE X e ta) (hb : attributeBase e f X.env (eval e X.env) = eval e X.env) : PE X (.Attribute e f pos) (tFld K ta f) := hK ▸ pe_fld he hb
theorem call_isiB {X : Cx} {K : PySem.W.Frag} (hK : X.K = K) : CallR X (.builtin "isinstance") (rIsi K) := hK ▸ call_isi
theorem cutV_upto {xs : List V} {i : Nat} (h : i ≤ xs.length) : cutV xs none (some (i : Int)) = xs.take i := by
  unfold cutV
  have e1 : HT.sIx xs.length 0 none = 0 := rfl
  have e2 : HT.sIx xs.length xs.length (some (i : Int)) = i := by
    rw [HT.sIx_nat]
    omega
  rw [e1, e2]
  simp
theorem nodup_snoc (zs : List Str) (z : Str) : (!decide (zs ++ [z]).Nodup) = (!decide zs.Nodup || decide (z ∈ zs)) := by
  rw [Bool.eq_iff_iff]
  simp only [Bool.not_eq_true', decide_eq_false_iff_not, Bool.or_eq_true, decide_eq_true_eq, List.nodup_append, List.mem_singleton]
  constructor
  · intro h
    by_cases hn : zs.Nodup
    · right
      exact Classical.byContradiction fun hz => h ⟨hn, by simp, fun a ha b hb => by rw [hb]; exact fun e => hz (e ▸ ha)⟩
    · exact .inl hn
  · rintro (h | h) ⟨h1, _, h3⟩
    · exact h h1
    · exact h3 z h z rfl rfl
theorem sc_has_twins : FnScope ["items", "at", "item", "earlier"] ["items"] (defScope s_has_twins) := ⟨rfl, rfl, rfl, by decide +kernel, rfl, by decide +kernel, by decide +kernel⟩
-- slots: 0 items, 1 at, 2 item, 3 earlier
/-- texts at a: are two of them equal -/
def spTw (K : PySem.W.Frag) : Sp := fun vs H Q _ => ∃ (a : Addr) (zs : List Str), vs = [.ref a] ∧ zs.length ≤ 1000 ∧ (SqL K H a (zs.map V.str) ∨ SqT K H a (zs.map V.str)) ∧ ∀ H', Same H H' → Q (.bl (!decide zs.Nodup)) H'
theorem ok_has_twins {fd : FuncData} (F : FnD K ("has_twins", none) "has_twins" "has_twins" s_has_twins fd) (T : GTxt K mg) : OkF P w K mg base CX0 1 "has_twins" ["items"] (spTw K) := by
  refine okd F (F.ok sc_has_twins (fun vs H Q E h => ?_) fun cdv A outer s H vs Q E hr h => ?_) fun _ _ _ _ _ _ us hl => match us, hl with | [_], _ => rfl
  · obtain ⟨a, zs, rfl, _⟩ := h
    rfl
  · obtain ⟨a, zs, rfl, hlen, hS | hS, k⟩ := h
    · refine ⟨_, PSs.nox (pss_cons (ps_for PassesOwn.never rfl (pi_enum (by rfl) T.z_enumerate (pa_cons (pv 0) pa_nil)) (pg_tup rfl (pgs_cons (pg_name (i := 1) sc_has_twins.nd rfl (Or.inl rfl)) (pgs_cons (pg_name (i := 2) sc_has_twins.nd rfl (Or.inl rfl)) pgs_nil)))
  (pss_one (ps_for PassesOwn.never rfl (pi_list (pe_slice sl_list (pv 0) po_none (po_some (pv 1)))) (pg_name (i := 3) sc_has_twins.nd rfl (Or.inl rfl))
  (pss_one (ps_if (pt_cmpR op_eq (pv 2) (pv 3) (nomark _)) (pss_one (ps_ret pe_bl))
  pss_nil)))))
  (pss_one (ps_ret pe_bl))), ?_⟩
      refine ⟨_, rfl, a, _, rfl, hS, for_it walk_enum (fun i σ H' => Same H H' ∧ (zs.take i).Nodup ∧ ∃ v1 v2 v3 : Option V, σ = [some (.ref a), v1, v2, v3]) ⟨Same.refl _, List.nodup_nil, none, none, none, rfl⟩ (fun i σ H' _ h => h.1.seq hS) ?_ ?_⟩
      · rintro i x σ H1 H2 hi ⟨sg, hn, v1, v2, v3, rfl⟩ hy
        obtain ⟨T', x', y', rfl, nT', rfl, hx', hy'⟩ := hy
        cases (Option.some.inj hx')
        replace hy' : (zs.map V.str)[i]? = some y' := hy'
        rw [List.getElem?_map] at hy'
        obtain ⟨z, hz, rfl⟩ : ∃ z, zs[i]? = some z ∧ y' = .str z := by
          cases hq : zs[i]? with
          | none => rw [hq] at hy'; cases hy'
          | some z =>
            rw [hq] at hy'
            exact ⟨z, rfl, (Option.some.inj hy').symm⟩
        have hi' : i < zs.length := (List.getElem?_eq_some_iff.mp hz).1
        have sT := sg.trans (same_new (o := .tup [.int (i : Nat), .str z]) nT')
        refine ⟨T', _, rfl, SqT.of upd_same, rfl, _, _, rfl, _, _, rfl, rfl, ?_⟩
        have ecut : cutV (zs.map V.str) none (some ((i : Nat) : Int)) = (zs.take i).map V.str := by
          rw [cutV_upto (xs := zs.map V.str) (i := i) (by rw [List.length_map]; omega), List.map_take]
        refine ⟨_, rfl, _, rfl, (i : Int), rfl, a, _, rfl, sT.seq hS, fun p np => ?_⟩
        rw [ecut]
        have sp := sT.trans (same_new (o := .lst ((zs.take i).map V.str)) np)
        have hp := upd_same (H := upd H1 T' (.tup [.int (i : Nat), .str z])) (a := p) (o := .lst ((zs.take i).map V.str))
        generalize upd (upd H1 T' (.tup [.int (i : Nat), .str z])) p (.lst ((zs.take i).map V.str)) = H3 at sp hp ⊢
        refine ⟨p, rfl, ⟨_, SqL.of hp⟩, for_list (K := K) (a := p) (xs := (zs.take i).map V.str) (fun j σ H' => H' = H3 ∧ (∀ w ∈ (zs.take i).take j, w ≠ z) ∧ ∃ v3 : Option V, σ = [some (.ref a), some (.int (i : Int)), some (.str z), v3]) ⟨rfl, (fun _ h => by cases h), v3, rfl⟩ (fun j σ H' _ h => h.1 ▸ SqL.of hp) ?_ ?_⟩
        · rintro j w σ H' hj ⟨rfl, hne, v, rfl⟩
          rw [List.getElem?_map] at hj
          obtain ⟨u, hu, rfl⟩ : ∃ u, (zs.take i)[j]? = some u ∧ w = .str u := by
            cases hq : (zs.take i)[j]? with
            | none => rw [hq] at hj; cases hj
            | some u =>
              rw [hq] at hj
              exact ⟨u, rfl, (Option.some.inj hj).symm⟩
          refine ⟨_, rfl, _, rfl, rfl, _, rfl, ite2 (fun e => ?_) fun e => ?_⟩
          · have ez : z = u := V.str.inj (of_decide_eq_true e)
            have hd : ¬ zs.Nodup := fun hn2 => by
              have h1 : (zs.take (i + 1)).Nodup := hn2.sublist (List.take_sublist _ _)
              rw [List.take_add_one, hz] at h1
              exact (List.nodup_append.mp h1).2.2 u (List.mem_of_getElem? hu) z (by simp) ez.symm
            have := k _ sp
            rw [decide_eq_false hd] at this
            exact this
          · refine ⟨rfl, fun v hv => ?_, _, rfl⟩
            rw [List.take_add_one, hu] at hv
            rcases List.mem_append.mp hv with hv | hv
            · exact hne v hv
            · have : v = u := by simpa using hv
              rw [this]
              exact fun ez => e (decide_eq_true (by rw [ez]))
        · rintro σ H' ⟨rfl, hne, v, rfl⟩
          refine ⟨sp, ?_, _, _, _, rfl⟩
          rw [List.length_map, List.take_length] at hne
          rw [List.take_add_one, hz]
          exact List.nodup_append.mpr ⟨hn, by simp, fun w hw w' hw' => by
            have : w' = z := by simpa using hw'
            rw [this]
            exact hne w hw⟩
      · rintro σ H1 ⟨sg, hn, v1, v2, v3, rfl⟩
        rw [List.length_map, List.take_length] at hn
        have := k H1 sg
        rw [decide_eq_true hn] at this
        exact this
    · refine ⟨_, PSs.nox (pss_cons (ps_for PassesOwn.never rfl (pi_enumT (by rfl) T.z_enumerate (pa_cons (pv 0) pa_nil)) (pg_tup rfl (pgs_cons (pg_name (i := 1) sc_has_twins.nd rfl (Or.inl rfl)) (pgs_cons (pg_name (i := 2) sc_has_twins.nd rfl (Or.inl rfl)) pgs_nil)))
  (pss_one (ps_for PassesOwn.never rfl (pi_tup (pe_slice sl_tup (pv 0) po_none (po_some (pv 1)))) (pg_name (i := 3) sc_has_twins.nd rfl (Or.inl rfl))
  (pss_one (ps_if (pt_cmpR op_eq (pv 2) (pv 3) (nomark _)) (pss_one (ps_ret pe_bl))
  pss_nil)))))
  (pss_one (ps_ret pe_bl))), ?_⟩
      refine ⟨_, rfl, a, _, rfl, hS, for_it walk_enumT (fun i σ H' => Same H H' ∧ (zs.take i).Nodup ∧ ∃ v1 v2 v3 : Option V, σ = [some (.ref a), v1, v2, v3]) ⟨Same.refl _, List.nodup_nil, none, none, none, rfl⟩ (fun i σ H' _ h => SqT.ext hS h.1) ?_ ?_⟩
      · rintro i x σ H1 H2 hi ⟨sg, hn, v1, v2, v3, rfl⟩ hy
        obtain ⟨T', x', y', rfl, nT', rfl, hx', hy'⟩ := hy
        cases (Option.some.inj hx')
        replace hy' : (zs.map V.str)[i]? = some y' := hy'
        rw [List.getElem?_map] at hy'
        obtain ⟨z, hz, rfl⟩ : ∃ z, zs[i]? = some z ∧ y' = .str z := by
          cases hq : zs[i]? with
          | none => rw [hq] at hy'; cases hy'
          | some z =>
            rw [hq] at hy'
            exact ⟨z, rfl, (Option.some.inj hy').symm⟩
        have hi' : i < zs.length := (List.getElem?_eq_some_iff.mp hz).1
        have sT := sg.trans (same_new (o := .tup [.int (i : Nat), .str z]) nT')
        refine ⟨T', _, rfl, SqT.of upd_same, rfl, _, _, rfl, _, _, rfl, rfl, ?_⟩
        have ecut : cutV (zs.map V.str) none (some ((i : Nat) : Int)) = (zs.take i).map V.str := by
          rw [cutV_upto (xs := zs.map V.str) (i := i) (by rw [List.length_map]; omega), List.map_take]
        have nw : ¬ (HT.sIx (zs.map V.str).length 0 none = 0 ∧ HT.sIx (zs.map V.str).length (zs.map V.str).length (some (i : Int)) = (zs.map V.str).length) := fun z => by
          have e1 : HT.sIx (zs.map V.str).length (zs.map V.str).length (some (i : Int)) = min i (zs.map V.str).length := HT.sIx_nat ..
          rw [e1, List.length_map] at z
          omega
        refine ⟨_, rfl, _, rfl, (i : Int), rfl, a, _, rfl, SqT.ext hS sT, nw, fun p np => ?_⟩
        rw [ecut]
        have sp := sT.trans (same_new (o := .tup ((zs.take i).map V.str)) np)
        have hp := upd_same (H := upd H1 T' (.tup [.int (i : Nat), .str z])) (a := p) (o := .tup ((zs.take i).map V.str))
        generalize upd (upd H1 T' (.tup [.int (i : Nat), .str z])) p (.tup ((zs.take i).map V.str)) = H3 at sp hp ⊢
        refine ⟨p, rfl, ⟨_, SqT.of hp⟩, for_tup (K := K) (a := p) (xs := (zs.take i).map V.str) (fun j σ H' => H' = H3 ∧ (∀ w ∈ (zs.take i).take j, w ≠ z) ∧ ∃ v3 : Option V, σ = [some (.ref a), some (.int (i : Int)), some (.str z), v3]) ⟨rfl, (fun _ h => by cases h), v3, rfl⟩ (fun j σ H' _ h => h.1 ▸ SqT.of hp) ?_ ?_⟩
        · rintro j w σ H' hj ⟨rfl, hne, v, rfl⟩
          rw [List.getElem?_map] at hj
          obtain ⟨u, hu, rfl⟩ : ∃ u, (zs.take i)[j]? = some u ∧ w = .str u := by
            cases hq : (zs.take i)[j]? with
            | none => rw [hq] at hj; cases hj
            | some u =>
              rw [hq] at hj
              exact ⟨u, rfl, (Option.some.inj hj).symm⟩
          refine ⟨_, rfl, _, rfl, rfl, _, rfl, ite2 (fun e => ?_) fun e => ?_⟩
          · have ez : z = u := V.str.inj (of_decide_eq_true e)
            have hd : ¬ zs.Nodup := fun hn2 => by
              have h1 : (zs.take (i + 1)).Nodup := hn2.sublist (List.take_sublist _ _)
              rw [List.take_add_one, hz] at h1
              exact (List.nodup_append.mp h1).2.2 u (List.mem_of_getElem? hu) z (by simp) ez.symm
            have := k _ sp
            rw [decide_eq_false hd] at this
            exact this
          · refine ⟨rfl, fun v hv => ?_, _, rfl⟩
            rw [List.take_add_one, hu] at hv
            rcases List.mem_append.mp hv with hv | hv
            · exact hne v hv
            · have : v = u := by simpa using hv
              rw [this]
              exact fun ez => e (decide_eq_true (by rw [ez]))
        · rintro σ H' ⟨rfl, hne, v, rfl⟩
          refine ⟨sp, ?_, _, _, _, rfl⟩
          rw [List.length_map, List.take_length] at hne
          rw [List.take_add_one, hz]
          exact List.nodup_append.mpr ⟨hn, by simp, fun w hw w' hw' => by
            have : w' = z := by simpa using hw'
            rw [this]
            exact hne w hw⟩
      · rintro σ H1 ⟨sg, hn, v1, v2, v3, rfl⟩
        rw [List.length_map, List.take_length] at hn
        have := k H1 sg
        rw [decide_eq_true hn] at this
        exact this
theorem inV_str (z : Str) (zs : List Str) : inV (.str z) (zs.map V.str) = decide (z ∈ zs) := by
  rw [Bool.eq_iff_iff, decide_eq_true_eq]
  unfold inV
  rw [List.any_eq_true]
  constructor
  · rintro ⟨y, hy, he⟩
    obtain ⟨w, hw, rfl⟩ := List.mem_map.mp hy
    have : (w == z) = true := he
    rw [← eq_of_beq this]
    exact hw
  · intro h
    exact ⟨.str z, List.mem_map_of_mem h, by show (z == z) = true; simp⟩
theorem flat_str (zs : List Str) : (zs.map V.str).all flatV = true := by
  rw [List.all_map, List.all_eq_true]
  exact fun _ _ => rfl
theorem sc_is_one_of : FnScope ["x", "names"] ["x", "names"] (defScope s_is_one_of) := ⟨rfl, rfl, rfl, by decide +kernel, rfl, by decide +kernel, by decide +kernel⟩
-- slots: 0 x, 1 names
/-- is x one of the texts at t -/
def spOne (K : PySem.W.Frag) : Sp := fun vs H Q _ => ∃ (x : V) (t : Addr) (zs : List Str), vs = [x, .ref t] ∧ SqT K H t (zs.map V.str) ∧ ((∃ z, x = .str z ∧ Q (.bl (decide (z ∈ zs))) H) ∨ (OddS H x ∧ Q (.bl false) H))
theorem ok_is_one_of {fd : FuncData} (F : FnD K ("is_one_of", none) "is_one_of" "is_one_of" s_is_one_of fd) (T : GTxt K mg) : OkF P w K mg base CX0 1 "is_one_of" ["x", "names"] (spOne K) := by
  refine okd F (F.ok sc_is_one_of (fun vs H Q E h => ?_) fun cdv A outer s H vs Q E hr h => ?_) fun _ _ _ _ _ _ us hl => match us, hl with | [_, _], _ => rfl
  · obtain ⟨x, t, zs, rfl, _⟩ := h
    rfl
  · obtain ⟨x, t, zs, rfl, hS, h⟩ := h
    refine ⟨_, PSs.nox (pss_one (ps_ret (pe_and (pe_callB (id := "isinstance") call_isi (by rfl) T.z_isinstance (by decide +kernel) (pa_cons (pv 0) (pa_cons (pe_ty (n := "str") T.z_str (by decide +kernel)) pa_nil))) (pe_one (pe_cmpR op_in_seq (pv 0) (pv 1) rfl))))), ?_⟩
    rcases h with ⟨z, rfl, q⟩ | ⟨o, q⟩
    · refine ⟨_, rfl, .str z, .ty "str", .type "str", .type "str", true, rfl, .ty _, .base (.str _), kit_ty (by decide +kernel), true, rfl, iteT ?_⟩
      refine ⟨_, rfl, _, rfl, t, _, rfl, .inr hS, rfl, flat_str zs, ?_⟩
      show Q (.bl (inV (.str z) (zs.map V.str))) H
      rw [inV_str]
      exact q
    · obtain ⟨n, t1, k1⟩ := oddS_ty K o
      exact ⟨_, rfl, x, .ty "str", .type n, .type "str", false, rfl, .ty _, t1, kit_ty k1, false, rfl, iteF q⟩
end
end K36

set_option Elab.async false
set_option linter.all false
set_option pp.deepTerms.threshold 14
set_option pp.maxSteps 2500
set_option maxRecDepth 100000
set_option maxHeartbeats 2000000
namespace K36
open PySem PySem.Spec PyProof.Rows L2 Vf
section
variable {P : Program} {w : World} {K : PySem.W.Frag} {mg : Str → Option Value} {base : Heap}
theorem sc_is_choice : FnScope ["ways", "names", "way"] ["ways", "names"] (defScope s_is_choice) := ⟨rfl, rfl, rfl, by decide +kernel, rfl, by decide +kernel, by decide +kernel⟩
-- slots: 0 ways, 1 names, 2 way
def spChoice (K : PySem.W.Frag) : Sp := fun vs H Q _ => ∃ (t n : Addr) (ws zs : List Str), vs = [.ref t, .ref n] ∧ H t = some (.tup (ws.map V.str)) ∧ H n = some (.tup (zs.map V.str)) ∧ (∀ y ∈ ws, y ∈ zs) ∧ ws.Nodup ∧ ws.length ≤ 1000 ∧ ∀ H', Same H H' → Q (.bl true) H'
theorem take_rep (i : Nat) : (List.replicate i true).map V.bl ++ [V.bl true] = (List.replicate (i + 1) true).map V.bl := by
  rw [List.replicate_succ', List.map_append]
  rfl
theorem all_rep (i : Nat) : (List.replicate i true).all id = true := by
  rw [List.all_eq_true]
  intro x hx
  rw [List.mem_replicate] at hx
  rw [hx.2]
  rfl
theorem ok_is_choice {fd : FuncData} (F : FnD K ("is_choice", none) "is_choice" "is_choice" s_is_choice fd) (T : GTxt K mg) (O_is_one_of : OkF P w K mg base CX0 1 "is_one_of" ["x", "names"] (spOne K)) (O_has_twins : OkF P w K mg base CX0 1 "has_twins" ["items"] (spTw K)) : OkF P w K mg base CX0 2 "is_choice" ["ways", "names"] (spChoice K) := by
  refine okd F (F.ok sc_is_choice (fun vs H Q E h => ?_) fun cdv A outer s H vs Q E hr h => ?_) fun _ _ _ _ _ _ us hl => match us, hl with | [_, _], _ => rfl
  · obtain ⟨t, n, ws, zs, rfl, _⟩ := h
    rfl
  · obtain ⟨t, n, ws, zs, rfl, ht, hn, hsub, hnd, hlen, k⟩ := h
    refine ⟨_, PSs.nox (pss_cons (ps_if (PW.pt (pw_or (pt_not (pt_val (pe_callB (id := "isinstance") call_isi (by rfl) T.z_isinstance (by decide +kernel) (pa_cons (pv 0) (pa_cons (pe_ty (n := "tuple") T.z_tuple (by decide +kernel)) pa_nil))))) (pw_or1 (pt_not (pt_val (pe_callB (id := "all") (cr_all rfl) (by rfl) T.z_all (by decide +kernel) (pa_cons (pe_lc (own := [("way", 2)]) (g := gName 2) (tt := tYes) (by rfl) sc_is_choice.nd (pi_tup (pv 0)) (blkOk_by (N := ["ways", "names", "way"]) (sc := defScope s_is_choice) (by decide +kernel)) (fun _ _ _ _ _ => (pg_name (i := 2) sc_is_choice.nd rfl (Or.inl rfl))) (fun _ _ _ _ _ => pts_nil) (fun _ _ _ _ _ => (c_fn O_is_one_of hr (by decide) T.g_is_one_of pass0 (pa_cons (pv 2) (pa_cons (pv 1) pa_nil))))) pa_nil))))))) (pss_one (ps_ret pe_bl))
  pss_nil)
  (pss_one (ps_ret (pe_not (c_fn O_has_twins hr (by decide) T.g_has_twins pass0 (pa_cons (pv 0) pa_nil)))))), ?_⟩
    refine ⟨_, rfl, .ref t, .ty "tuple", .type "tuple", .type "tuple", true, rfl, .ty _, .base (.tup ht), kit_ty (by decide +kernel), true, rfl, iteF ?_⟩
    refine ⟨_, rfl, t, rfl, ⟨_, SqT.of ht⟩, fun D nD => lc_it walk_tup (fun i H' => Same H H' ∧ H' D = some (.lst ((List.replicate i true).map V.bl))) ⟨same_new nD, upd_same⟩ (fun i H' _ h => SqT.ext (SqT.of ht) h.1) ?_ ?_⟩
    · rintro i x H1 H' hi ⟨sg, hD⟩ ⟨rfl, hx⟩
      rw [List.getElem?_map] at hx
      obtain ⟨y, hy, rfl⟩ : ∃ y, ws[i]? = some y ∧ x = .str y := by
        cases hq : ws[i]? with
        | none => rw [hq] at hx; cases hx
        | some y =>
          rw [hq] at hx
          exact ⟨y, rfl, (Option.some.inj hx).symm⟩
      have hin := hsub y (List.mem_of_getElem? hy)
      refine ⟨rfl, _, rfl, _, rfl, .str y, n, zs, rfl, SqT.ext (SqT.of hn) sg, .inl ⟨y, rfl, ?_⟩⟩
      rw [decide_eq_true hin]
      refine ⟨_, hD, ?_, same_app sg (Same.refl _) nD, by rw [upd_same, take_rep]⟩
      rw [List.length_map, List.length_replicate]
      rw [List.length_map] at hi
      exact Nat.lt_of_lt_of_le hi (Nat.le_trans hlen (by decide))
    · rintro H' ⟨sg, hD⟩
      refine ⟨D, _, rfl, SqL.of hD, ?_⟩
      rw [all_rep]
      refine ⟨true, rfl, iteF ⟨_, rfl, t, ws, rfl, hlen, .inr (SqT.ext (SqT.of ht) sg), fun H2 s2 => ?_⟩⟩
      rw [decide_eq_true hnd]
      exact ⟨_, rfl, k H2 (sg.trans s2)⟩
structure Rw where
  z : Str
  l : Int
  m : Int
  b : Bool
  ns : List Str
deriving DecidableEq
/-- a place, the tuple of its nexts, its row -/
abbrev PgE : Type := Addr × Addr × Rw
def zsOf (xs : List PgE) : List Str := xs.map fun x => x.2.2.z
def PlE (K : PySem.W.Frag) (H : Hp) (x : PgE) : Prop := PlA (CP K) H x.1 x.2.2.z x.2.2.l x.2.2.m x.2.2.b
theorem PlE.ext {K : PySem.W.Frag} {H H' : Hp} {x : PgE} (h : PlE K H x) (s : Same H H') : PlE K H' x := PlA.ext h s
theorem getE {xs : List PgE} {f : PgE → V} {i : Nat} {x : V} (h : (xs.map f)[i]? = some x) : ∃ y, xs[i]? = some y ∧ x = f y := by
  rw [List.getElem?_map] at h
  cases hq : xs[i]? with
  | none => rw [hq] at h; cases h
  | some y =>
    rw [hq] at h
    exact ⟨y, rfl, (Option.some.inj h).symm⟩
theorem sc_are_places : FnScope ["places", "place"] ["places"] (defScope s_are_places) := ⟨rfl, rfl, rfl, by decide +kernel, rfl, by decide +kernel, by decide +kernel⟩
-- slots: 0 places, 1 place
def spArePl (K : PySem.W.Frag) : Sp := fun vs H Q _ => ∃ (L : Addr) (xs : List PgE), vs = [.ref L] ∧ (H L = some (.lst (xs.map fun x => V.ref x.1)) ∨ H L = some (.tup (xs.map fun x => V.ref x.1))) ∧ (∀ x ∈ xs, PlE K H x) ∧ 1 ≤ xs.length ∧ xs.length ≤ 6 ∧ (zsOf xs).Nodup ∧ ∀ H', Same H H' → Q (.bl true) H'
theorem ok_are_places {fd : FuncData} (F : FnD K ("are_places", none) "are_places" "are_places" s_are_places fd) (T : GTxt K mg) (O_has_twins : OkF P w K mg base CX0 1 "has_twins" ["items"] (spTw K)) : OkF P w K mg base CX0 2 "are_places" ["places"] (spArePl K) := by
  refine okd F (F.ok sc_are_places (fun vs H Q E h => ?_) fun cdv A outer s H vs Q E hr h => ?_) fun _ _ _ _ _ _ us hl => match us, hl with | [_], _ => rfl
  · obtain ⟨L, xs, rfl, _⟩ := h
    rfl
  · obtain ⟨L, xs, rfl, hL | hL, hp, l1, l6, hnd, k⟩ := h
    · refine ⟨_, PSs.nox (pss_cons (ps_if (PW.pt (pw_or (pt_not (pt_val (pe_callB (id := "isinstance") call_isiT (by rfl) T.z_isinstance (by decide +kernel) (pa_cons (pv 0) (pa_cons (pe_tup (pa_cons (pe_ty (n := "list") T.z_list (by decide +kernel)) (pa_cons (pe_ty (n := "tuple") T.z_tuple (by decide +kernel)) pa_nil))) pa_nil))))) (pw_or1 (pt_not (pt_chain op_le op_le pe_int (pe_callB (id := "len") call_len_seq (by rfl) T.z_len (by decide +kernel) (pa_cons (pv 0) pa_nil)) (c_gint T.i_MOST_PLACES)))))) (pss_one (ps_ret pe_bl))
  pss_nil)
  (pss_cons (ps_if (pt_not (pt_val (pe_callB (id := "all") (cr_all rfl) (by rfl) T.z_all (by decide +kernel) (pa_cons (pe_lc (own := [("place", 1)]) (g := gName 1) (tt := tYes) (by rfl) sc_are_places.nd (pi_list (pv 0)) (blkOk_by (N := ["places", "place"]) (sc := defScope s_are_places) (by decide +kernel)) (fun _ _ _ _ _ => (pg_name (i := 1) sc_are_places.nd rfl (Or.inl rfl))) (fun _ _ _ _ _ => pts_nil) (fun _ _ _ _ _ => (pe_callB (id := "isinstance") (call_isiB (K := K) rfl) (by rfl) T.z_isinstance (by decide +kernel) (pa_cons (pv 1) (pa_cons (pe_cl T.g_Place) pa_nil))))) pa_nil)))) (pss_one (ps_ret pe_bl))
  pss_nil)
  (pss_one (ps_ret (pe_not (c_fn O_has_twins hr (by decide) T.g_has_twins pass0 (pa_cons (pe_lc (own := [("place", 1)]) (g := gName 1) (tt := tYes) (by rfl) sc_are_places.nd (pi_list (pv 0)) (blkOk_by (N := ["places", "place"]) (sc := defScope s_are_places) (by decide +kernel)) (fun _ _ _ _ _ => (pg_name (i := 1) sc_are_places.nd rfl (Or.inl rfl))) (fun _ _ _ _ _ => pts_nil) (fun _ _ _ _ _ => (pe_fldK (K := K) rfl (pv 1) rfl))) pa_nil))))))), ?_⟩
      refine ⟨_, rfl, (by show 2 ≤ sizeLine; decide), fun tp ntp => ⟨.ref L, tp, [.ty "list", .ty "tuple"], .type "list", [.type "list", .type "tuple"], true, rfl, upd_same, .cons (.ty _) (.cons (.ty _) .nil), .base (.lst (same_new ntp _ _ hL)), kitAny_cons (b := true) (kit_ty (by decide +kernel)) (fun z => nomatch z) (fun _ => rfl), true, rfl, iteF ?_⟩⟩
      have s1 := same_new (o := .tup [.ty "list", .ty "tuple"]) ntp
      have hL1 := s1 _ _ hL
      generalize upd H tp (.tup [.ty "list", .ty "tuple"]) = H1 at s1 hL1 ⊢
      clear ntp
      refine ⟨_, rfl, L, _, rfl, .inl (SqL.of hL1), 1, _, rfl, rfl, true, congrArg V.bl (decide_eq_true (by rw [List.length_map]; omega)), iteT ⟨_, 6, rfl, rfl, true, congrArg V.bl (decide_eq_true (by rw [List.length_map]; omega)), iteF ?_⟩⟩
      refine ⟨_, rfl, L, rfl, ⟨_, SqL.of hL1⟩, fun D nD => lc_it walk_list (fun i H' => Same H1 H' ∧ H' D = some (.lst ((List.replicate i true).map V.bl))) ⟨same_new nD, upd_same⟩ (fun i H' _ h => h.1.seq (SqL.of hL1)) ?_ ?_⟩
      · rintro i x H2 H' hi ⟨sg, hD⟩ ⟨rfl, hx⟩
        obtain ⟨y, hy, rfl⟩ := getE hx
        obtain ⟨dy, ey⟩ := (hp y (List.mem_of_getElem? hy)).ext (s1.trans sg)
        refine ⟨rfl, _, rfl, .ref y.1, .ref (CP K), .ref (CP K), .ref (CP K), true, rfl, .own _, .base (.ins ey T.c_Place T.ha T.hn T.ht T.hm), T.k1, ?_⟩
        refine ⟨_, hD, ?_, same_app sg (Same.refl _) nD, by rw [upd_same, take_rep]⟩
        rw [List.length_map, List.length_replicate]
        rw [List.length_map] at hi
        exact Nat.lt_of_lt_of_le hi (Nat.le_trans l6 (by decide))
      · rintro H2 ⟨sg, hD⟩
        refine ⟨D, _, rfl, SqL.of hD, ?_⟩
        rw [all_rep]
        refine ⟨true, rfl, iteF ?_⟩
        have hL2 := sg _ _ hL1
        refine ⟨_, rfl, L, rfl, ⟨_, SqL.of hL2⟩, fun D2 nD2 => lc_it walk_list (fun i H' => Same H2 H' ∧ H' D2 = some (.lst (((zsOf xs).take i).map V.str))) ⟨same_new nD2, upd_same⟩ (fun i H' _ h => h.1.seq (SqL.of hL2)) ?_ ?_⟩
        · rintro i x H3 H' hi ⟨sg3, hD3⟩ ⟨rfl, hx⟩
          obtain ⟨y, hy, rfl⟩ := getE hx
          obtain ⟨dy, ey⟩ := (hp y (List.mem_of_getElem? hy)).ext (s1.trans (sg.trans sg3))
          refine ⟨rfl, _, rfl, y.1, _, dy, _, _, rfl, ey, T.c_Place, T.nN, plf_name .., ?_⟩
          refine ⟨_, hD3, ?_, same_app sg3 (Same.refl _) nD2, ?_⟩
          · rw [List.length_map, List.length_take]
            rw [List.length_map] at hi
            exact Nat.lt_of_le_of_lt (Nat.min_le_left _ _) (Nat.lt_of_lt_of_le hi (Nat.le_trans l6 (by decide)))
          · rw [upd_same, List.take_add_one, List.map_append]
            have : (zsOf xs)[i]? = some y.2.2.z := by
              unfold zsOf
              rw [List.getElem?_map, hy]
              rfl
            rw [this]
            rfl
        · rintro H3 ⟨sg3, hD3⟩
          have hlz : (zsOf xs).length = xs.length := List.length_map ..
          rw [List.length_map, ← hlz, List.take_length] at hD3
          refine ⟨D2, zsOf xs, rfl, by omega, .inl (SqL.of hD3), fun H4 s4 => ?_⟩
          rw [decide_eq_true hnd]
          exact ⟨_, rfl, k H4 (s1.trans (sg.trans (sg3.trans s4)))⟩
    · refine ⟨_, PSs.nox (pss_cons (ps_if (PW.pt (pw_or (pt_not (pt_val (pe_callB (id := "isinstance") call_isiT (by rfl) T.z_isinstance (by decide +kernel) (pa_cons (pv 0) (pa_cons (pe_tup (pa_cons (pe_ty (n := "list") T.z_list (by decide +kernel)) (pa_cons (pe_ty (n := "tuple") T.z_tuple (by decide +kernel)) pa_nil))) pa_nil))))) (pw_or1 (pt_not (pt_chain op_le op_le pe_int (pe_callB (id := "len") call_len_seq (by rfl) T.z_len (by decide +kernel) (pa_cons (pv 0) pa_nil)) (c_gint T.i_MOST_PLACES)))))) (pss_one (ps_ret pe_bl))
  pss_nil)
  (pss_cons (ps_if (pt_not (pt_val (pe_callB (id := "all") (cr_all rfl) (by rfl) T.z_all (by decide +kernel) (pa_cons (pe_lc (own := [("place", 1)]) (g := gName 1) (tt := tYes) (by rfl) sc_are_places.nd (pi_tup (pv 0)) (blkOk_by (N := ["places", "place"]) (sc := defScope s_are_places) (by decide +kernel)) (fun _ _ _ _ _ => (pg_name (i := 1) sc_are_places.nd rfl (Or.inl rfl))) (fun _ _ _ _ _ => pts_nil) (fun _ _ _ _ _ => (pe_callB (id := "isinstance") (call_isiB (K := K) rfl) (by rfl) T.z_isinstance (by decide +kernel) (pa_cons (pv 1) (pa_cons (pe_cl T.g_Place) pa_nil))))) pa_nil)))) (pss_one (ps_ret pe_bl))
  pss_nil)
  (pss_one (ps_ret (pe_not (c_fn O_has_twins hr (by decide) T.g_has_twins pass0 (pa_cons (pe_lc (own := [("place", 1)]) (g := gName 1) (tt := tYes) (by rfl) sc_are_places.nd (pi_tup (pv 0)) (blkOk_by (N := ["places", "place"]) (sc := defScope s_are_places) (by decide +kernel)) (fun _ _ _ _ _ => (pg_name (i := 1) sc_are_places.nd rfl (Or.inl rfl))) (fun _ _ _ _ _ => pts_nil) (fun _ _ _ _ _ => (pe_fldK (K := K) rfl (pv 1) rfl))) pa_nil))))))), ?_⟩
      refine ⟨_, rfl, (by show 2 ≤ sizeLine; decide), fun tp ntp => ⟨.ref L, tp, [.ty "list", .ty "tuple"], .type "tuple", [.type "list", .type "tuple"], true, rfl, upd_same, .cons (.ty _) (.cons (.ty _) .nil), .base (.tup (same_new ntp _ _ hL)), kitAny_cons (b := false) (kit_ty (by decide +kernel)) (fun _ => kitAny_cons (b := true) (kit_ty (by decide +kernel)) (fun z => nomatch z) (fun _ => rfl)) (fun z => nomatch z), true, rfl, iteF ?_⟩⟩
      have s1 := same_new (o := .tup [.ty "list", .ty "tuple"]) ntp
      have hL1 := s1 _ _ hL
      generalize upd H tp (.tup [.ty "list", .ty "tuple"]) = H1 at s1 hL1 ⊢
      clear ntp
      refine ⟨_, rfl, L, _, rfl, .inr (SqT.of hL1), 1, _, rfl, rfl, true, congrArg V.bl (decide_eq_true (by rw [List.length_map]; omega)), iteT ⟨_, 6, rfl, rfl, true, congrArg V.bl (decide_eq_true (by rw [List.length_map]; omega)), iteF ?_⟩⟩
      refine ⟨_, rfl, L, rfl, ⟨_, SqT.of hL1⟩, fun D nD => lc_it walk_tup (fun i H' => Same H1 H' ∧ H' D = some (.lst ((List.replicate i true).map V.bl))) ⟨same_new nD, upd_same⟩ (fun i H' _ h => SqT.ext (SqT.of hL1) h.1) ?_ ?_⟩
      · rintro i x H2 H' hi ⟨sg, hD⟩ ⟨rfl, hx⟩
        obtain ⟨y, hy, rfl⟩ := getE hx
        obtain ⟨dy, ey⟩ := (hp y (List.mem_of_getElem? hy)).ext (s1.trans sg)
        refine ⟨rfl, _, rfl, .ref y.1, .ref (CP K), .ref (CP K), .ref (CP K), true, rfl, .own _, .base (.ins ey T.c_Place T.ha T.hn T.ht T.hm), T.k1, ?_⟩
        refine ⟨_, hD, ?_, same_app sg (Same.refl _) nD, by rw [upd_same, take_rep]⟩
        rw [List.length_map, List.length_replicate]
        rw [List.length_map] at hi
        exact Nat.lt_of_lt_of_le hi (Nat.le_trans l6 (by decide))
      · rintro H2 ⟨sg, hD⟩
        refine ⟨D, _, rfl, SqL.of hD, ?_⟩
        rw [all_rep]
        refine ⟨true, rfl, iteF ?_⟩
        have hL2 := sg _ _ hL1
        refine ⟨_, rfl, L, rfl, ⟨_, SqT.of hL2⟩, fun D2 nD2 => lc_it walk_tup (fun i H' => Same H2 H' ∧ H' D2 = some (.lst (((zsOf xs).take i).map V.str))) ⟨same_new nD2, upd_same⟩ (fun i H' _ h => SqT.ext (SqT.of hL2) h.1) ?_ ?_⟩
        · rintro i x H3 H' hi ⟨sg3, hD3⟩ ⟨rfl, hx⟩
          obtain ⟨y, hy, rfl⟩ := getE hx
          obtain ⟨dy, ey⟩ := (hp y (List.mem_of_getElem? hy)).ext (s1.trans (sg.trans sg3))
          refine ⟨rfl, _, rfl, y.1, _, dy, _, _, rfl, ey, T.c_Place, T.nN, plf_name .., ?_⟩
          refine ⟨_, hD3, ?_, same_app sg3 (Same.refl _) nD2, ?_⟩
          · rw [List.length_map, List.length_take]
            rw [List.length_map] at hi
            exact Nat.lt_of_le_of_lt (Nat.min_le_left _ _) (Nat.lt_of_lt_of_le hi (Nat.le_trans l6 (by decide)))
          · rw [upd_same, List.take_add_one, List.map_append]
            have : (zsOf xs)[i]? = some y.2.2.z := by
              unfold zsOf
              rw [List.getElem?_map, hy]
              rfl
            rw [this]
            rfl
        · rintro H3 ⟨sg3, hD3⟩
          have hlz : (zsOf xs).length = xs.length := List.length_map ..
          rw [List.length_map, ← hlz, List.take_length] at hD3
          refine ⟨D2, zsOf xs, rfl, by omega, .inl (SqL.of hD3), fun H4 s4 => ?_⟩
          rw [decide_eq_true hnd]
          exact ⟨_, rfl, k H4 (s1.trans (sg.trans (sg3.trans s4)))⟩
end
end K36

set_option Elab.async false
set_option linter.all false
set_option pp.deepTerms.threshold 14
set_option pp.maxSteps 2500
set_option maxRecDepth 100000
set_option maxHeartbeats 2000000
namespace K36
open PySem PySem.Spec PyProof.Rows L2 Vf
section
variable {P : Program} {w : World} {K : PySem.W.Frag} {mg : Str → Option Value} {base : Heap}
theorem dget_of {H : Hp} {N : Addr} {kvs : List (Key × V)} {z : Str} {o : Option V} (hN : H N = some (.dK kvs)) (hv : valV kvs (Sum.inr z) = o) : DGet H N (.str z) o := hv ▸ DGet.k (k := Sum.inr z) hN
/-- the dict at N: for each row the tuple of its nexts -/
def NxA (H : Hp) (N : Addr) (xs : List PgE) : Prop := ∃ kvs, H N = some (.dK kvs) ∧ kvs.length = xs.length ∧ ∀ x ∈ xs, valV kvs (Sum.inr x.2.2.z) = some (.ref x.2.1)
theorem NxA.ext {H H' : Hp} {N : Addr} {xs : List PgE} (h : NxA H N xs) (s : Same H H') : NxA H' N xs := by
  obtain ⟨kvs, h1, h2, h3⟩ := h
  exact ⟨kvs, s _ _ h1, h2, h3⟩
/-- the tuple of a row's nexts -/
def NsE (H : Hp) (zs : List Str) (x : PgE) : Prop := H x.2.1 = some (.tup (x.2.2.ns.map V.str)) ∧ (∀ y ∈ x.2.2.ns, y ∈ zs) ∧ x.2.2.ns.Nodup ∧ x.2.2.ns.length ≤ 1000
theorem NsE.ext {H H' : Hp} {zs : List Str} {x : PgE} (h : NsE H zs x) (s : Same H H') : NsE H' zs x := ⟨s _ _ h.1, h.2⟩
theorem zsAt {xs : List PgE} {i : Nat} {v : V} (h : ((zsOf xs).map V.str)[i]? = some v) : ∃ x, xs[i]? = some x ∧ v = .str x.2.2.z := by
  rw [zsOf, List.map_map] at h
  exact getE h
theorem sc_are_nexts : FnScope ["nexts", "names", "name"] ["nexts", "names"] (defScope s_are_nexts) := ⟨rfl, rfl, rfl, by decide +kernel, rfl, by decide +kernel, by decide +kernel⟩
-- slots: 0 nexts, 1 names, 2 name
def spAreNx (K : PySem.W.Frag) : Sp := fun vs H Q _ => ∃ (N n : Addr) (xs : List PgE), vs = [.ref N, .ref n] ∧ NxA H N xs ∧ H n = some (.tup ((zsOf xs).map V.str)) ∧ (∀ x ∈ xs, NsE H (zsOf xs) x) ∧ xs.length ≤ 6 ∧ ∀ H', Same H H' → Q (.bl true) H'
theorem ok_are_nexts {fd : FuncData} (F : FnD K ("are_nexts", none) "are_nexts" "are_nexts" s_are_nexts fd) (T : GTxt K mg) (O_is_choice : OkF P w K mg base CX0 2 "is_choice" ["ways", "names"] (spChoice K)) : OkF P w K mg base CX0 3 "are_nexts" ["nexts", "names"] (spAreNx K) := by
  refine okd F (F.ok sc_are_nexts (fun vs H Q E h => ?_) fun cdv A outer s H vs Q E hr h => ?_) fun _ _ _ _ _ _ us hl => match us, hl with | [_, _], _ => rfl
  · obtain ⟨N, n, xs, rfl, _⟩ := h
    rfl
  · obtain ⟨N, n, xs, rfl, ⟨kvs, hN, hlen, hv⟩, hn, hns, l6, k⟩ := h
    refine ⟨_, PSs.nox (pss_cons (ps_if (PW.pt (pw_or (pt_not (pt_val (pe_callB (id := "isinstance") call_isi (by rfl) T.z_isinstance (by decide +kernel) (pa_cons (pv 0) (pa_cons (pe_ty (n := "dict") T.z_dict (by decide +kernel)) pa_nil))))) (pw_or1 (pt_cmpR op_ne (pe_callB call_lenD (by rfl) T.z_len (by decide +kernel) (pa_cons (pv 0) pa_nil)) (pe_callB (id := "len") call_len_seq (by rfl) T.z_len (by decide +kernel) (pa_cons (pv 1) pa_nil)) (nomark _))))) (pss_one (ps_ret pe_bl))
  pss_nil)
  (pss_one (ps_ret (pe_callB (id := "all") (cr_all rfl) (by rfl) T.z_all (by decide +kernel) (pa_cons (pe_lc (own := [("name", 2)]) (g := gName 2) (tt := tYes) (by rfl) sc_are_nexts.nd (pi_tup (pv 1)) (blkOk_by (N := ["nexts", "names", "name"]) (sc := defScope s_are_nexts) (by decide +kernel)) (fun _ _ _ _ _ => (pg_name (i := 2) sc_are_nexts.nd rfl (Or.inl rfl))) (fun _ _ _ _ _ => pts_nil) (fun _ _ _ _ _ => (pe_and (pe_cmp (pc_din (hu_of hr) (pv 2) (pv 0)) rfl) (pe_one (c_fn O_is_choice hr (by decide) T.g_is_choice pass0 (pa_cons (pe_dget (hu_of hr) (pv 0) (pv 2) (fun _ _ => rfl)) (pa_cons (pv 1) pa_nil))))))) pa_nil))))), ?_⟩
    have hlz : (zsOf xs).length = xs.length := List.length_map ..
    refine ⟨_, rfl, .ref N, .ty "dict", .type "dict", .type "dict", true, rfl, .ty _, .base (.dK hN), kit_ty (by decide +kernel), true, rfl, iteF ?_⟩
    refine ⟨_, rfl, N, kvs, rfl, hN, _, rfl, n, _, rfl, .inr (SqT.of hn), rfl, false, ?_, iteF ?_⟩
    · rw [List.length_map, hlz, hlen, decide_eq_true rfl]
      rfl
    refine ⟨_, rfl, n, rfl, ⟨_, SqT.of hn⟩, fun D nD => lc_it walk_tup (fun i H' => Same H H' ∧ H' D = some (.lst ((List.replicate i true).map V.bl))) ⟨same_new nD, upd_same⟩ (fun i H' _ h => SqT.ext (SqT.of hn) h.1) ?_ ?_⟩
    · rintro i x H1 H' hi ⟨sg, hD⟩ ⟨rfl, hx⟩
      obtain ⟨y, hy, rfl⟩ := zsAt hx
      have hm := List.mem_of_getElem? hy
      obtain ⟨e1, e2, e3, e4⟩ := (hns y hm).ext sg
      refine ⟨rfl, _, rfl, _, rfl, N, _, rfl, dget_of (sg _ _ hN) (hv y hm), true, rfl, iteT ?_⟩
      refine ⟨_, rfl, _, rfl, N, _, rfl, dget_of (sg _ _ hN) (hv y hm), _, rfl, y.2.1, n, y.2.2.ns, zsOf xs, rfl, e1, sg _ _ hn, e2, e3, e4, fun H2 s2 => ?_⟩
      refine ⟨_, s2 _ _ hD, ?_, same_app sg s2 nD, by rw [upd_same, take_rep]⟩
      rw [List.length_map, List.length_replicate]
      rw [List.length_map, hlz] at hi
      exact Nat.lt_of_lt_of_le hi (Nat.le_trans l6 (by decide))
    · rintro H2 ⟨sg, hD⟩
      refine ⟨D, _, rfl, SqL.of hD, ?_⟩
      rw [all_rep]
      exact k H2 sg
/-! ### a program's fields -/
def pgf (tn : Addr) (st : Str) (dP dN : Addr) : List (Str × V) := putF "_nexts" (.ref dN) (putF "_places" (.ref dP) (putF "start" (.str st) (putF "names" (.ref tn) [])))
section
variable (tn : Addr) (st : Str) (dP dN : Addr)
theorem pgf_names : (pgf tn st dP dN).lookup ("names" : Str) = some (.ref tn) := by
  unfold pgf
  rw [lookup_putF, if_neg (by decide +kernel), lookup_putF, if_neg (by decide +kernel), lookup_putF, if_neg (by decide +kernel), lookup_putF, if_pos rfl]
theorem pgf_start : (pgf tn st dP dN).lookup ("start" : Str) = some (.str st) := by
  unfold pgf
  rw [lookup_putF, if_neg (by decide +kernel), lookup_putF, if_neg (by decide +kernel), lookup_putF, if_pos rfl]
theorem pgf_places : (pgf tn st dP dN).lookup ("_places" : Str) = some (.ref dP) := by
  unfold pgf
  rw [lookup_putF, if_neg (by decide +kernel), lookup_putF, if_pos rfl]
theorem pgf_nexts : (pgf tn st dP dN).lookup ("_nexts" : Str) = some (.ref dN) := by
  unfold pgf
  rw [lookup_putF, if_pos rfl]
end
def kvP (xs : List PgE) : List (Key × V) := xs.map fun x => (Sum.inr x.2.2.z, V.ref x.1)
def kvN (xs : List PgE) : List (Key × V) := xs.map fun x => (Sum.inr x.2.2.z, V.ref x.2.1)
/-- at g a program of the rows xs with the start st -/
structure PgA (K : PySem.W.Frag) (H : Hp) (g : Addr) (xs : List PgE) (st : Str) (dx tn dP dN : Addr) : Prop where
  hg : H g = some (.ins (CG K) dx (pgf tn st dP dN))
  hn : H tn = some (.tup ((zsOf xs).map V.str))
  hP : H dP = some (.dK (kvP xs))
  hN : H dN = some (.dK (kvN xs))
  pl : ∀ x ∈ xs, PlE K H x
  ns : ∀ x ∈ xs, NsE H (zsOf xs) x
  nd : (zsOf xs).Nodup
  l1 : 1 ≤ xs.length
  l6 : xs.length ≤ 6
  nm : ∀ z ∈ zsOf xs, nmB z = true
theorem PgA.ext {K : PySem.W.Frag} {H H' : Hp} {g : Addr} {xs : List PgE} {st : Str} {dx tn dP dN : Addr} (h : PgA K H g xs st dx tn dP dN) (s : Same H H') : PgA K H' g xs st dx tn dP dN :=
  ⟨s _ _ h.hg, s _ _ h.hn, s _ _ h.hP, s _ _ h.hN, fun x hx => (h.pl x hx).ext s, fun x hx => (h.ns x hx).ext s, h.nd, h.l1, h.l6, h.nm⟩
/-- all but what stands at d is as it was -/
def SameX (d : Addr) (H H' : Hp) : Prop := ∀ b o, b ≠ d → H b = some o → H' b = some o
theorem SameX.trans {d : Addr} {H H1 H2 : Hp} (a : SameX d H H1) (b : SameX d H1 H2) : SameX d H H2 := fun c o n h => b c o n (a c o n h)
theorem same_x {d : Addr} {H H' : Hp} (s : Same H H') : SameX d H H' := fun b o _ h => s b o h
theorem SameX.upd {d : Addr} {H : Hp} {o : HO} : SameX d H (upd H d o) := fun b u n h => by rw [upd_ne n]; exact h
/-- keys apart: what a row's name finds -/
theorem val_row {f : PgE → V} : ∀ {xs : List PgE} {i : Nat} {x : PgE}, (zsOf xs).Nodup → xs[i]? = some x → valV (xs.map fun y => ((Sum.inr y.2.2.z : Key), f y)) (Sum.inr x.2.2.z) = some (f x)
  | y :: ys, 0, x, nd, h => by
    cases h
    exact valV_pos rfl
  | y :: ys, i + 1, x, nd, h => by
    have h' : ys[i]? = some x := h
    have nd' : (y.2.2.z :: zsOf ys).Nodup := nd
    rw [List.nodup_cons] at nd'
    rw [List.map_cons, valV_neg fun z => nd'.1 ?_]
    · exact val_row nd'.2 h'
    · have : y.2.2.z = x.2.2.z := Sum.inr.inj z
      rw [this]
      exact List.mem_map_of_mem (List.mem_of_getElem? h')
theorem val_miss {f : PgE → V} {z : Str} : ∀ {xs : List PgE}, z ∉ zsOf xs → valV (xs.map fun y => ((Sum.inr y.2.2.z : Key), f y)) (Sum.inr z) = none
  | [], _ => rfl
  | y :: ys, h => by
    have h1 : ¬ y.2.2.z = z := fun e => h (e ▸ List.mem_cons_self ..)
    rw [List.map_cons, valV_neg (fun e => h1 (Sum.inr.inj e))]
    exact val_miss fun hm => h (List.mem_cons_of_mem _ hm)
theorem put_row {f : PgE → V} {xs : List PgE} {i : Nat} {x : PgE} (nd : (zsOf xs).Nodup) (h : xs[i]? = some x) : putK ((xs.take i).map fun y => ((Sum.inr y.2.2.z : Key), f y)) (Sum.inr x.2.2.z) (f x) = (xs.take (i + 1)).map fun y => ((Sum.inr y.2.2.z : Key), f y) := by
  have hn : x.2.2.z ∉ zsOf (xs.take i) := fun hm => by
    have h1 : (zsOf (xs.take (i + 1))).Nodup := by
      have : zsOf (xs.take (i + 1)) = (zsOf xs).take (i + 1) := List.map_take ..
      rw [this]
      exact nd.sublist (List.take_sublist _ _)
    rw [List.take_add_one, h] at h1
    have h2 : (zsOf (xs.take i) ++ [x.2.2.z]).Nodup := by simpa [zsOf] using h1
    exact (List.nodup_append.mp h2).2.2 _ hm _ (by simp) rfl
  rw [putK_new _ (val_miss hn), List.take_add_one, h, List.map_append]
  rfl
end
end K36

set_option Elab.async false
set_option linter.all false
set_option pp.deepTerms.threshold 14
set_option pp.maxSteps 2500
set_option maxRecDepth 100000
set_option maxHeartbeats 2000000
namespace K36
open PySem PySem.Spec PyProof.Rows L2 Vf
section
variable {P : Program} {w : World} {K : PySem.W.Frag} {mg : Str → Option Value} {base : Heap}
theorem sc_BadProgram_init : FnScope ["self", "why"] ["self", "why"] (defScope s_BadProgram_init) := ⟨rfl, rfl, rfl, by decide +kernel, rfl, by decide +kernel, by decide +kernel⟩
-- slots: 0 self, 1 why
theorem ok_BadProgram_init {fd : FuncData} (F : FnD K ("BadProgram", some "__init__") "__init__" "BadProgram.__init__" s_BadProgram_init fd) : OkD P w K mg base CX0 1 ("BadProgram", some "__init__") ["self", "why"] [] (spExI K (CBG K) "why") := by
  refine okd F (F.ok sc_BadProgram_init (fun vs H Q E h => ?_) fun cdv A outer s H vs Q E hr h => ⟨tOst K "why" (tVar 0) (tVar 1), PSs.nox ?_, run_exI h⟩) fun _ _ _ _ _ _ us hl => match us, hl with | [_, _], _ => rfl
  · obtain ⟨a, v, rfl, _⟩ := h
    rfl
  · exact pss_one (ps_ost (pv 0) (pv 1))
theorem pl_ne {K : PySem.W.Frag} {H : Hp} {x : PgE} {g dx : Addr} (h : PlE K H x) (hg : H g = some (.ins (CG K) dx [])) : x.1 ≠ g := by
  obtain ⟨dy, e⟩ := h
  refine ne_of e hg fun z => ?_
  injection z with _ _ z
  have := plf_name x.2.2.z x.2.2.l x.2.2.m x.2.2.b
  rw [z] at this
  cases this
/-- the parts of a right program -/
structure PartsOk (K : PySem.W.Frag) (H : Hp) (o : List V → HO) (L N : Addr) (xs : List PgE) : Prop where
  hL : H L = some (o (xs.map fun x => V.ref x.1))
  pl : ∀ x ∈ xs, PlE K H x
  nx : NxA H N xs
  ns : ∀ x ∈ xs, NsE H (zsOf xs) x
  nd : (zsOf xs).Nodup
  l1 : 1 ≤ xs.length
  l6 : xs.length ≤ 6
  nm : ∀ z ∈ zsOf xs, nmB z = true
  ho : o = HO.lst ∨ o = HO.tup
theorem PartsOk.ext {K : PySem.W.Frag} {H H' : Hp} {o : List V → HO} {L N : Addr} {xs : List PgE} (h : PartsOk K H o L N xs) (s : Same H H') : PartsOk K H' o L N xs := ⟨s _ _ h.hL, fun x hx => (h.pl x hx).ext s, h.nx.ext s, fun x hx => (h.ns x hx).ext s, h.nd, h.l1, h.l6, h.nm, h.ho⟩
theorem PartsOk.extX {K : PySem.W.Frag} {H H' : Hp} {o : List V → HO} {L N g dx : Addr} {xs : List PgE} (h : PartsOk K H o L N xs) (hg : H g = some (.ins (CG K) dx [])) (s : SameX g H H') : PartsOk K H' o L N xs := by
  refine ⟨s _ _ (ne_of h.hL hg (by intro z; rcases h.ho with e | e <;> (rw [e] at z; cases z))) h.hL, fun x hx => ?_, ?_, fun x hx => ?_, h.nd, h.l1, h.l6, h.nm, h.ho⟩
  · have n := pl_ne (h.pl x hx) hg
    obtain ⟨dy, e⟩ := h.pl x hx
    exact ⟨dy, s _ _ n e⟩
  · obtain ⟨kvs, h1, h2, h3⟩ := h.nx
    exact ⟨kvs, s _ _ (ne_of h1 hg (by intro z; cases z)) h1, h2, h3⟩
  · obtain ⟨h1, h2⟩ := h.ns x hx
    exact ⟨s _ _ (ne_of h1 hg (by intro z; cases z)) h1, h2⟩
def spPgI (K : PySem.W.Frag) : Sp := fun vs H Q _ => ∃ (g dx L N : Addr) (o : List V → HO) (xs : List PgE) (st : V) (s : Str), vs = [.ref g, .ref L, .ref N, st] ∧ H g = some (.ins (CG K) dx []) ∧ PartsOk K H o L N xs ∧ s ∈ zsOf xs ∧ (st = .str s ∨ (st = .non ∧ (zsOf xs)[0]? = some s)) ∧
  ∀ H' dx tn dP dN, SameX g H H' → PgA K H' g xs s dx tn dP dN → H dP = none → H dN = none → Q .non H'
theorem same_xg {d : Addr} {H H1 H2 : Hp} (a : SameX d H H1) (b : Same H1 H2) : SameX d H H2 := a.trans (same_x b)
theorem sc_Program_init : FnScope ["self", "places", "nexts", "start", "names", "place", "name"] ["self", "places", "nexts", "start"] (defScope s_Program_init) := ⟨rfl, rfl, rfl, by decide +kernel, rfl, by decide +kernel, by decide +kernel⟩
-- slots: 0 self, 1 places, 2 nexts, 3 start, 4 names, 5 place, 6 name
theorem ok_Program_init {fd : FuncData} (F : FunD K "__init__" "Program.__init__" (defArgs s_Program_init) (defBody s_Program_init) (defScope s_Program_init) [] [("start", .non)] (He.fAd K ("Program", some "__init__")) fd) (T : GTxt K mg)
    (O_are_places : OkF P w K mg base CX0 2 "are_places" ["places"] (spArePl K)) (O_are_nexts : OkF P w K mg base CX0 3 "are_nexts" ["nexts", "names"] (spAreNx K)) (O_is_one_of : OkF P w K mg base CX0 1 "is_one_of" ["x", "names"] (spOne K))
    (O_BadProgram_init : OkD P w K mg base CX0 1 ("BadProgram", some "__init__") ["self", "why"] [] (spExI K (CBG K) "why")) :
    FnOk P w K mg base (L2.CX P w) 5 (He.fAd K ("Program", some "__init__")) fd ["self", "places", "nexts", "start"] (spPgI K) := by
  refine F.ok sc_Program_init (fun vs H Q E h => ?_) fun cdv A outer s H vs Q E hr h => ?_
  · obtain ⟨g, dx, L, N, o, xs, st, s, rfl, _⟩ := h
    rfl
  · obtain ⟨g, dx, L, N, o, xs, st, z, rfl, hg, hp, hz, hst, k⟩ := h
    have hpo := hp.ho
    rcases hpo with rfl | rfl
    · refine ⟨_, (pss_cons (ps_if (pt_not (pt_val (c_fn O_are_places hr (by decide) T.g_are_places pass0 (pa_cons (pv 1) pa_nil)))) (pss_one (c_raise T.x_BadProgram O_BadProgram_init hr (by decide) T.g_BadProgram (takes_of rfl rfl rfl rfl) (pa_cons pe_str pa_nil)))
  pss_nil)
  (pss_cons (ps_set (i := 4) sc_Program_init.nd rfl (Or.inl rfl) (pe_callTy call_tuple_of (by rfl) T.z_tuple (by decide +kernel) (pa_cons (pe_lc (own := [("place", 5)]) (g := gName 5) (tt := tYes) (by rfl) sc_Program_init.nd (pi_list (pv 1)) (blkOk_by (N := ["self", "places", "nexts", "start", "names", "place", "name"]) (sc := defScope s_Program_init) (by decide +kernel)) (fun _ _ _ _ _ => (pg_name (i := 5) sc_Program_init.nd rfl (Or.inl rfl))) (fun _ _ _ _ _ => pts_nil) (fun _ _ _ _ _ => (pe_fldK (K := K) rfl (pv 5) rfl))) pa_nil)))
  (pss_cons (ps_if (pt_not (pt_val (c_fn O_are_nexts hr (by decide) T.g_are_nexts pass0 (pa_cons (pv 2) (pa_cons (pv 4) pa_nil))))) (pss_one (c_raise T.x_BadProgram O_BadProgram_init hr (by decide) T.g_BadProgram (takes_of rfl rfl rfl rfl) (pa_cons pe_str pa_nil)))
  pss_nil)
  (pss_cons (ps_if (PW.pt (pw_and (pt_cmpR op_notN (pv 3) pe_non (nomark _)) (pw_and1 (pt_not (pt_val (c_fn O_is_one_of hr (by decide) T.g_is_one_of pass0 (pa_cons (pv 3) (pa_cons (pv 4) pa_nil)))))))) (pss_one (c_raise T.x_BadProgram O_BadProgram_init hr (by decide) T.g_BadProgram (takes_of rfl rfl rfl rfl) (pa_cons pe_str pa_nil)))
  pss_nil)
  (pss_cons (ps_fld (pv 0) (pv 4) rfl)
  (pss_cons (ps_fld (pv 0) (pe_ifExp (pt_cmpR op_isN (pv 3) pe_non (nomark _)) (pe_ix ix_tup (pv 4) pe_int (fun _ _ => rfl)) (pv 3)) rfl)
  (pss_cons (ps_fld (pv 0) (pe_dc (own := [("place", 5)]) (g := gName 5) (tt := tYes) (by rfl) sc_Program_init.nd (pi_list (pv 1)) (blkOk_by (N := ["self", "places", "nexts", "start", "names", "place", "name"]) (sc := defScope s_Program_init) (by decide +kernel)) (fun _ _ _ _ _ => (pg_name (i := 5) sc_Program_init.nd rfl (Or.inl rfl))) (fun _ _ _ _ _ => pts_nil) (fun _ _ _ _ _ => (pe_fldK (K := K) rfl (pv 5) rfl)) (fun _ _ _ _ _ => (pv 5))) rfl)
  (pss_one (ps_fld (pv 0) (pe_dc (own := [("name", 6)]) (g := gName 6) (tt := tYes) (by rfl) sc_Program_init.nd (pi_tup (pv 4)) (blkOk_by (N := ["self", "places", "nexts", "start", "names", "place", "name"]) (sc := defScope s_Program_init) (by decide +kernel)) (fun _ _ _ _ _ => (pg_name (i := 6) sc_Program_init.nd rfl (Or.inl rfl))) (fun _ _ _ _ _ => pts_nil) (fun _ _ _ _ _ => (pv 6)) (fun _ _ _ _ _ => (pe_dget (hu_of hr) (pv 2) (pv 6) (fun _ _ => rfl)))) rfl))))))))), ?_⟩
      have hlz : (zsOf xs).length = xs.length := List.length_map ..
      refine ⟨_, rfl, L, xs, rfl, .inl hp.hL, hp.pl, hp.l1, hp.l6, hp.nd, fun H1 s1 => ⟨true, rfl, iteF ?_⟩⟩
      have hp1 := hp.ext s1
      -- the names
      refine ⟨_, rfl, L, rfl, ⟨_, SqL.of hp1.hL⟩, fun D nD => lc_it walk_list (fun i H' => Same H1 H' ∧ H' D = some (.lst (((zsOf xs).take i).map V.str))) ⟨same_new nD, upd_same⟩ (fun i H' _ h => h.1.seq (SqL.of hp1.hL)) ?_ ?_⟩
      · rintro i x H3 H' hi ⟨sg3, hD3⟩ ⟨rfl, hx⟩
        obtain ⟨y, hy, rfl⟩ := getE hx
        obtain ⟨dy, ey⟩ := (hp1.pl y (List.mem_of_getElem? hy)).ext sg3
        refine ⟨rfl, _, rfl, y.1, _, dy, _, _, rfl, ey, T.c_Place, T.nN, plf_name .., ?_⟩
        refine ⟨_, hD3, ?_, same_app sg3 (Same.refl _) nD, ?_⟩
        · rw [List.length_map, List.length_take]
          rw [List.length_map] at hi
          exact Nat.lt_of_le_of_lt (Nat.min_le_left _ _) (Nat.lt_of_lt_of_le hi (Nat.le_trans hp.l6 (by decide)))
        · rw [upd_same, List.take_add_one, List.map_append]
          have : (zsOf xs)[i]? = some y.2.2.z := by
            unfold zsOf
            rw [List.getElem?_map, hy]
            rfl
          rw [this]
          rfl
      rintro H2 ⟨s12, hD⟩
      rw [List.length_map, ← hlz, List.take_length] at hD
      refine ⟨D, _, rfl, .inl ⟨SqL.of hD, fun tn ntn => ?_⟩⟩
      have s2t := same_new (o := .tup ((zsOf xs).map V.str)) ntn
      have hn : (upd H2 tn (.tup ((zsOf xs).map V.str))) tn = some (.tup ((zsOf xs).map V.str)) := upd_same
      have s3 := s1.trans (s12.trans s2t)
      generalize upd H2 tn (.tup ((zsOf xs).map V.str)) = H3 at hn s3 ⊢
      clear s2t ntn hD nD s12 hp1 s1
      have hp3 := hp.ext s3
      refine ⟨_, rfl, _, rfl, N, tn, xs, rfl, hp3.nx, hn, hp3.ns, hp.l6, fun H4 s34 => ⟨true, rfl, iteF ?_⟩⟩
      have s4 := s3.trans s34
      have hn4 := s34 _ _ hn
      have hg4 := s4 _ _ hg
      have ngt : tn ≠ g := ne_of hn4 hg4 (by intro z; cases z)
      clear hp3 hn s34 s3 H1 H2 H3
      have none_x : ∀ {H5 : Hp} {D : Addr}, SameX g H H5 → D ≠ g → H5 D = none → H D = none := fun {H5 D} x n e => by
        cases q : H D with
        | none => rfl
        | some o =>
          have := x D o n q
          rw [e] at this
          cases this
      have fin : ∀ H5 : Hp, SameX g H H5 → H5 tn = some (.tup ((zsOf xs).map V.str)) → ∀ dP : Addr, H5 dP = some (.dK (kvP xs)) → ∀ dN : Addr, H5 dN = some (.dK (kvN xs)) → H5 g = some (.ins (CG K) dx (pgf tn z dP dN)) → H dP = none → H dN = none → Q .non H5 := fun H5 x5 h1 dP h2 dN h3 h4 h5 h6 => by
        have hq := hp.extX hg x5
        exact k H5 dx tn dP dN x5 ⟨h4, h1, h2, h3, hq.pl, hq.ns, hq.nd, hq.l1, hq.l6, hq.nm⟩ h5 h6
      rcases hst with rfl | ⟨rfl, h0⟩
      · refine ⟨_, rfl, rfl, true, rfl, iteT ⟨_, rfl, _, rfl, .str z, tn, zsOf xs, rfl, SqT.of hn4, .inl ⟨z, rfl, true, by rw [decide_eq_true hz], iteF ?_⟩⟩⟩
        refine ⟨_, rfl, _, rfl, g, _, dx, [], rfl, hg4, T.c_Program, T.nA, (by show 0 < 1000; decide), ?_⟩
        refine ⟨_, rfl, rfl, false, rfl, iteF ⟨_, rfl, _, rfl, g, _, dx, _, rfl, upd_same, T.c_Program, T.nB, (by show 1 < 1000; decide), ?_⟩⟩
        have x5 : SameX g H (upd (upd H4 g (.ins (CG K) dx (putF "names" (.ref tn) []))) g (.ins (CG K) dx (putF "start" (.str z) (putF "names" (.ref tn) [])))) := (same_x s4).trans (SameX.upd.trans SameX.upd)
        have hg5 : (upd (upd H4 g (.ins (CG K) dx (putF "names" (.ref tn) []))) g (.ins (CG K) dx (putF "start" (.str z) (putF "names" (.ref tn) [])))) g = some (.ins (CG K) dx (putF "start" (.str z) (putF "names" (.ref tn) []))) := upd_same
        have hn5 : (upd (upd H4 g (.ins (CG K) dx (putF "names" (.ref tn) []))) g (.ins (CG K) dx (putF "start" (.str z) (putF "names" (.ref tn) [])))) tn = some (.tup ((zsOf xs).map V.str)) := by rw [upd_ne ngt, upd_ne ngt]; exact hn4
        generalize upd (upd H4 g (.ins (CG K) dx (putF "names" (.ref tn) []))) g (.ins (CG K) dx (putF "start" (.str z) (putF "names" (.ref tn) []))) = H5 at x5 hg5 hn5 ⊢
        clear hn4 hg4 s4 H4
        have hp5 := hp.extX hg x5
        refine ⟨_, rfl, L, rfl, ⟨_, SqL.of hp5.hL⟩, fun D nD => dc_it walk_list (fun i H' => Same H5 H' ∧ H' D = some (.dK ((xs.take i).map fun y => ((Sum.inr y.2.2.z : Key), V.ref y.1)))) ⟨same_new nD, by rw [upd_same]; rfl⟩ (fun i H' _ h => h.1.seq (SqL.of hp5.hL)) ?_ ?_⟩
        · rintro i x H6 H' hi ⟨sg, hD⟩ ⟨rfl, hx⟩
          obtain ⟨y, hy, rfl⟩ := getE hx
          obtain ⟨dy, ey⟩ := (hp5.pl y (List.mem_of_getElem? hy)).ext sg
          refine ⟨rfl, _, rfl, y.1, _, dy, _, _, rfl, ey, T.c_Place, T.nN, plf_name .., _, rfl, _, Sum.inr y.2.2.z, rfl, hD, ?_, same_app sg (Same.refl _) nD, ?_⟩
          · rw [List.length_map, List.length_take]
            rw [List.length_map] at hi
            exact Nat.lt_of_le_of_lt (Nat.min_le_left _ _) (Nat.lt_of_lt_of_le hi (Nat.le_trans hp.l6 (by decide)))
          · rw [upd_same, put_row (f := fun y => V.ref y.1) hp.nd hy]
        rintro H6 ⟨s56, hD⟩
        rw [List.length_map, List.take_length] at hD
        have hg6 := s56 _ _ hg5
        have nDg : D ≠ g := ne_of hD hg6 (by intro z; cases z)
        refine ⟨_, rfl, g, _, dx, _, rfl, hg6, T.c_Program, T.nC, (by show 2 < 1000; decide), ?_⟩
        have x7 : SameX g H (upd H6 g (.ins (CG K) dx (putF "_places" (.ref D) (putF "start" (.str z) (putF "names" (.ref tn) []))))) := (x5.trans (same_x s56)).trans SameX.upd
        have hg7 : (upd H6 g (.ins (CG K) dx (putF "_places" (.ref D) (putF "start" (.str z) (putF "names" (.ref tn) []))))) g = some (.ins (CG K) dx (putF "_places" (.ref D) (putF "start" (.str z) (putF "names" (.ref tn) [])))) := upd_same
        have hn7 : (upd H6 g (.ins (CG K) dx (putF "_places" (.ref D) (putF "start" (.str z) (putF "names" (.ref tn) []))))) tn = some (.tup ((zsOf xs).map V.str)) := by rw [upd_ne ngt]; exact s56 _ _ hn5
        have hD7 : (upd H6 g (.ins (CG K) dx (putF "_places" (.ref D) (putF "start" (.str z) (putF "names" (.ref tn) []))))) D = some (.dK (kvP xs)) := by rw [upd_ne nDg]; exact hD
        generalize upd H6 g (.ins (CG K) dx (putF "_places" (.ref D) (putF "start" (.str z) (putF "names" (.ref tn) [])))) = H7 at x7 hg7 hn7 hD7 ⊢
        have nD0 := none_x x5 nDg nD
        clear hg6 hD s56 nD hp5 hn5 hg5 x5 H6 H5
        have hp7 := hp.extX hg x7
        obtain ⟨kvs, hN, hl, hv⟩ := hp7.nx
        refine ⟨_, rfl, tn, rfl, ⟨_, SqT.of hn7⟩, fun D2 nD2 => dc_it walk_tup (fun i H' => Same H7 H' ∧ H' D2 = some (.dK ((xs.take i).map fun y => ((Sum.inr y.2.2.z : Key), V.ref y.2.1)))) ⟨same_new nD2, by rw [upd_same]; rfl⟩ (fun i H' _ h => SqT.ext (SqT.of hn7) h.1) ?_ ?_⟩
        · rintro i x H8 H' hi ⟨sg, hD2⟩ ⟨rfl, hx⟩
          obtain ⟨y, hy, rfl⟩ := zsAt hx
          refine ⟨rfl, _, rfl, _, rfl, _, rfl, N, _, rfl, dget_of (sg _ _ hN) (hv y (List.mem_of_getElem? hy)), _, Sum.inr y.2.2.z, rfl, hD2, ?_, same_app sg (Same.refl _) nD2, ?_⟩
          · rw [List.length_map, List.length_take]
            rw [List.length_map, hlz] at hi
            exact Nat.lt_of_le_of_lt (Nat.min_le_left _ _) (Nat.lt_of_lt_of_le hi (Nat.le_trans hp.l6 (by decide)))
          · rw [upd_same, put_row (f := fun y => V.ref y.2.1) hp.nd hy]
        rintro H8 ⟨s78, hD2⟩
        rw [List.length_map, hlz, List.take_length] at hD2
        have hg8 := s78 _ _ hg7
        have nDg2 : D2 ≠ g := ne_of hD2 hg8 (by intro z; cases z)
        refine ⟨_, rfl, g, _, dx, _, rfl, hg8, T.c_Program, T.nD, (by show 3 < 1000; decide), ?_⟩
        exact fin _ ((x7.trans (same_x s78)).trans SameX.upd) (by rw [upd_ne ngt]; exact s78 _ _ hn7) D (by rw [upd_ne nDg]; exact s78 _ _ hD7) D2 (by rw [upd_ne nDg2]; exact hD2) upd_same nD0 (none_x x7 nDg2 nD2)
      · refine ⟨_, rfl, rfl, false, rfl, iteF ?_⟩
        refine ⟨_, rfl, _, rfl, g, _, dx, [], rfl, hg4, T.c_Program, T.nA, (by show 0 < 1000; decide), ?_⟩
        have a0 : atI ((zsOf xs).map V.str) 0 = some (.str z) := atI_nat (j := 0) (by rw [List.getElem?_map, h0]; rfl)
        have hn4' : (upd H4 g (.ins (CG K) dx (putF "names" (.ref tn) []))) tn = some (.tup ((zsOf xs).map V.str)) := by rw [upd_ne ngt]; exact hn4
        refine ⟨_, rfl, rfl, true, rfl, iteT ⟨_, rfl, tn, _, 0, .str z, rfl, rfl, SqT.of hn4', a0, _, rfl, g, _, dx, _, rfl, upd_same, T.c_Program, T.nB, (by show 1 < 1000; decide), ?_⟩⟩
        clear hn4' a0
        have x5 : SameX g H (upd (upd H4 g (.ins (CG K) dx (putF "names" (.ref tn) []))) g (.ins (CG K) dx (putF "start" (.str z) (putF "names" (.ref tn) [])))) := (same_x s4).trans (SameX.upd.trans SameX.upd)
        have hg5 : (upd (upd H4 g (.ins (CG K) dx (putF "names" (.ref tn) []))) g (.ins (CG K) dx (putF "start" (.str z) (putF "names" (.ref tn) [])))) g = some (.ins (CG K) dx (putF "start" (.str z) (putF "names" (.ref tn) []))) := upd_same
        have hn5 : (upd (upd H4 g (.ins (CG K) dx (putF "names" (.ref tn) []))) g (.ins (CG K) dx (putF "start" (.str z) (putF "names" (.ref tn) [])))) tn = some (.tup ((zsOf xs).map V.str)) := by rw [upd_ne ngt, upd_ne ngt]; exact hn4
        generalize upd (upd H4 g (.ins (CG K) dx (putF "names" (.ref tn) []))) g (.ins (CG K) dx (putF "start" (.str z) (putF "names" (.ref tn) []))) = H5 at x5 hg5 hn5 ⊢
        clear hn4 hg4 s4 H4
        have hp5 := hp.extX hg x5
        refine ⟨_, rfl, L, rfl, ⟨_, SqL.of hp5.hL⟩, fun D nD => dc_it walk_list (fun i H' => Same H5 H' ∧ H' D = some (.dK ((xs.take i).map fun y => ((Sum.inr y.2.2.z : Key), V.ref y.1)))) ⟨same_new nD, by rw [upd_same]; rfl⟩ (fun i H' _ h => h.1.seq (SqL.of hp5.hL)) ?_ ?_⟩
        · rintro i x H6 H' hi ⟨sg, hD⟩ ⟨rfl, hx⟩
          obtain ⟨y, hy, rfl⟩ := getE hx
          obtain ⟨dy, ey⟩ := (hp5.pl y (List.mem_of_getElem? hy)).ext sg
          refine ⟨rfl, _, rfl, y.1, _, dy, _, _, rfl, ey, T.c_Place, T.nN, plf_name .., _, rfl, _, Sum.inr y.2.2.z, rfl, hD, ?_, same_app sg (Same.refl _) nD, ?_⟩
          · rw [List.length_map, List.length_take]
            rw [List.length_map] at hi
            exact Nat.lt_of_le_of_lt (Nat.min_le_left _ _) (Nat.lt_of_lt_of_le hi (Nat.le_trans hp.l6 (by decide)))
          · rw [upd_same, put_row (f := fun y => V.ref y.1) hp.nd hy]
        rintro H6 ⟨s56, hD⟩
        rw [List.length_map, List.take_length] at hD
        have hg6 := s56 _ _ hg5
        have nDg : D ≠ g := ne_of hD hg6 (by intro z; cases z)
        refine ⟨_, rfl, g, _, dx, _, rfl, hg6, T.c_Program, T.nC, (by show 2 < 1000; decide), ?_⟩
        have x7 : SameX g H (upd H6 g (.ins (CG K) dx (putF "_places" (.ref D) (putF "start" (.str z) (putF "names" (.ref tn) []))))) := (x5.trans (same_x s56)).trans SameX.upd
        have hg7 : (upd H6 g (.ins (CG K) dx (putF "_places" (.ref D) (putF "start" (.str z) (putF "names" (.ref tn) []))))) g = some (.ins (CG K) dx (putF "_places" (.ref D) (putF "start" (.str z) (putF "names" (.ref tn) [])))) := upd_same
        have hn7 : (upd H6 g (.ins (CG K) dx (putF "_places" (.ref D) (putF "start" (.str z) (putF "names" (.ref tn) []))))) tn = some (.tup ((zsOf xs).map V.str)) := by rw [upd_ne ngt]; exact s56 _ _ hn5
        have hD7 : (upd H6 g (.ins (CG K) dx (putF "_places" (.ref D) (putF "start" (.str z) (putF "names" (.ref tn) []))))) D = some (.dK (kvP xs)) := by rw [upd_ne nDg]; exact hD
        generalize upd H6 g (.ins (CG K) dx (putF "_places" (.ref D) (putF "start" (.str z) (putF "names" (.ref tn) [])))) = H7 at x7 hg7 hn7 hD7 ⊢
        have nD0 := none_x x5 nDg nD
        clear hg6 hD s56 nD hp5 hn5 hg5 x5 H6 H5
        have hp7 := hp.extX hg x7
        obtain ⟨kvs, hN, hl, hv⟩ := hp7.nx
        refine ⟨_, rfl, tn, rfl, ⟨_, SqT.of hn7⟩, fun D2 nD2 => dc_it walk_tup (fun i H' => Same H7 H' ∧ H' D2 = some (.dK ((xs.take i).map fun y => ((Sum.inr y.2.2.z : Key), V.ref y.2.1)))) ⟨same_new nD2, by rw [upd_same]; rfl⟩ (fun i H' _ h => SqT.ext (SqT.of hn7) h.1) ?_ ?_⟩
        · rintro i x H8 H' hi ⟨sg, hD2⟩ ⟨rfl, hx⟩
          obtain ⟨y, hy, rfl⟩ := zsAt hx
          refine ⟨rfl, _, rfl, _, rfl, _, rfl, N, _, rfl, dget_of (sg _ _ hN) (hv y (List.mem_of_getElem? hy)), _, Sum.inr y.2.2.z, rfl, hD2, ?_, same_app sg (Same.refl _) nD2, ?_⟩
          · rw [List.length_map, List.length_take]
            rw [List.length_map, hlz] at hi
            exact Nat.lt_of_le_of_lt (Nat.min_le_left _ _) (Nat.lt_of_lt_of_le hi (Nat.le_trans hp.l6 (by decide)))
          · rw [upd_same, put_row (f := fun y => V.ref y.2.1) hp.nd hy]
        rintro H8 ⟨s78, hD2⟩
        rw [List.length_map, hlz, List.take_length] at hD2
        have hg8 := s78 _ _ hg7
        have nDg2 : D2 ≠ g := ne_of hD2 hg8 (by intro z; cases z)
        refine ⟨_, rfl, g, _, dx, _, rfl, hg8, T.c_Program, T.nD, (by show 3 < 1000; decide), ?_⟩
        exact fin _ ((x7.trans (same_x s78)).trans SameX.upd) (by rw [upd_ne ngt]; exact s78 _ _ hn7) D (by rw [upd_ne nDg]; exact s78 _ _ hD7) D2 (by rw [upd_ne nDg2]; exact hD2) upd_same nD0 (none_x x7 nDg2 nD2)
    · refine ⟨_, (pss_cons (ps_if (pt_not (pt_val (c_fn O_are_places hr (by decide) T.g_are_places pass0 (pa_cons (pv 1) pa_nil)))) (pss_one (c_raise T.x_BadProgram O_BadProgram_init hr (by decide) T.g_BadProgram (takes_of rfl rfl rfl rfl) (pa_cons pe_str pa_nil)))
  pss_nil)
  (pss_cons (ps_set (i := 4) sc_Program_init.nd rfl (Or.inl rfl) (pe_callTy call_tuple_of (by rfl) T.z_tuple (by decide +kernel) (pa_cons (pe_lc (own := [("place", 5)]) (g := gName 5) (tt := tYes) (by rfl) sc_Program_init.nd (pi_tup (pv 1)) (blkOk_by (N := ["self", "places", "nexts", "start", "names", "place", "name"]) (sc := defScope s_Program_init) (by decide +kernel)) (fun _ _ _ _ _ => (pg_name (i := 5) sc_Program_init.nd rfl (Or.inl rfl))) (fun _ _ _ _ _ => pts_nil) (fun _ _ _ _ _ => (pe_fldK (K := K) rfl (pv 5) rfl))) pa_nil)))
  (pss_cons (ps_if (pt_not (pt_val (c_fn O_are_nexts hr (by decide) T.g_are_nexts pass0 (pa_cons (pv 2) (pa_cons (pv 4) pa_nil))))) (pss_one (c_raise T.x_BadProgram O_BadProgram_init hr (by decide) T.g_BadProgram (takes_of rfl rfl rfl rfl) (pa_cons pe_str pa_nil)))
  pss_nil)
  (pss_cons (ps_if (PW.pt (pw_and (pt_cmpR op_notN (pv 3) pe_non (nomark _)) (pw_and1 (pt_not (pt_val (c_fn O_is_one_of hr (by decide) T.g_is_one_of pass0 (pa_cons (pv 3) (pa_cons (pv 4) pa_nil)))))))) (pss_one (c_raise T.x_BadProgram O_BadProgram_init hr (by decide) T.g_BadProgram (takes_of rfl rfl rfl rfl) (pa_cons pe_str pa_nil)))
  pss_nil)
  (pss_cons (ps_fld (pv 0) (pv 4) rfl)
  (pss_cons (ps_fld (pv 0) (pe_ifExp (pt_cmpR op_isN (pv 3) pe_non (nomark _)) (pe_ix ix_tup (pv 4) pe_int (fun _ _ => rfl)) (pv 3)) rfl)
  (pss_cons (ps_fld (pv 0) (pe_dc (own := [("place", 5)]) (g := gName 5) (tt := tYes) (by rfl) sc_Program_init.nd (pi_tup (pv 1)) (blkOk_by (N := ["self", "places", "nexts", "start", "names", "place", "name"]) (sc := defScope s_Program_init) (by decide +kernel)) (fun _ _ _ _ _ => (pg_name (i := 5) sc_Program_init.nd rfl (Or.inl rfl))) (fun _ _ _ _ _ => pts_nil) (fun _ _ _ _ _ => (pe_fldK (K := K) rfl (pv 5) rfl)) (fun _ _ _ _ _ => (pv 5))) rfl)
  (pss_one (ps_fld (pv 0) (pe_dc (own := [("name", 6)]) (g := gName 6) (tt := tYes) (by rfl) sc_Program_init.nd (pi_tup (pv 4)) (blkOk_by (N := ["self", "places", "nexts", "start", "names", "place", "name"]) (sc := defScope s_Program_init) (by decide +kernel)) (fun _ _ _ _ _ => (pg_name (i := 6) sc_Program_init.nd rfl (Or.inl rfl))) (fun _ _ _ _ _ => pts_nil) (fun _ _ _ _ _ => (pv 6)) (fun _ _ _ _ _ => (pe_dget (hu_of hr) (pv 2) (pv 6) (fun _ _ => rfl)))) rfl))))))))), ?_⟩
      have hlz : (zsOf xs).length = xs.length := List.length_map ..
      refine ⟨_, rfl, L, xs, rfl, .inr hp.hL, hp.pl, hp.l1, hp.l6, hp.nd, fun H1 s1 => ⟨true, rfl, iteF ?_⟩⟩
      have hp1 := hp.ext s1
      -- the names
      refine ⟨_, rfl, L, rfl, ⟨_, SqT.of hp1.hL⟩, fun D nD => lc_it walk_tup (fun i H' => Same H1 H' ∧ H' D = some (.lst (((zsOf xs).take i).map V.str))) ⟨same_new nD, upd_same⟩ (fun i H' _ h => SqT.ext (SqT.of hp1.hL) h.1) ?_ ?_⟩
      · rintro i x H3 H' hi ⟨sg3, hD3⟩ ⟨rfl, hx⟩
        obtain ⟨y, hy, rfl⟩ := getE hx
        obtain ⟨dy, ey⟩ := (hp1.pl y (List.mem_of_getElem? hy)).ext sg3
        refine ⟨rfl, _, rfl, y.1, _, dy, _, _, rfl, ey, T.c_Place, T.nN, plf_name .., ?_⟩
        refine ⟨_, hD3, ?_, same_app sg3 (Same.refl _) nD, ?_⟩
        · rw [List.length_map, List.length_take]
          rw [List.length_map] at hi
          exact Nat.lt_of_le_of_lt (Nat.min_le_left _ _) (Nat.lt_of_lt_of_le hi (Nat.le_trans hp.l6 (by decide)))
        · rw [upd_same, List.take_add_one, List.map_append]
          have : (zsOf xs)[i]? = some y.2.2.z := by
            unfold zsOf
            rw [List.getElem?_map, hy]
            rfl
          rw [this]
          rfl
      rintro H2 ⟨s12, hD⟩
      rw [List.length_map, ← hlz, List.take_length] at hD
      refine ⟨D, _, rfl, .inl ⟨SqL.of hD, fun tn ntn => ?_⟩⟩
      have s2t := same_new (o := .tup ((zsOf xs).map V.str)) ntn
      have hn : (upd H2 tn (.tup ((zsOf xs).map V.str))) tn = some (.tup ((zsOf xs).map V.str)) := upd_same
      have s3 := s1.trans (s12.trans s2t)
      generalize upd H2 tn (.tup ((zsOf xs).map V.str)) = H3 at hn s3 ⊢
      clear s2t ntn hD nD s12 hp1 s1
      have hp3 := hp.ext s3
      refine ⟨_, rfl, _, rfl, N, tn, xs, rfl, hp3.nx, hn, hp3.ns, hp.l6, fun H4 s34 => ⟨true, rfl, iteF ?_⟩⟩
      have s4 := s3.trans s34
      have hn4 := s34 _ _ hn
      have hg4 := s4 _ _ hg
      have ngt : tn ≠ g := ne_of hn4 hg4 (by intro z; cases z)
      clear hp3 hn s34 s3 H1 H2 H3
      have none_x : ∀ {H5 : Hp} {D : Addr}, SameX g H H5 → D ≠ g → H5 D = none → H D = none := fun {H5 D} x n e => by
        cases q : H D with
        | none => rfl
        | some o =>
          have := x D o n q
          rw [e] at this
          cases this
      have fin : ∀ H5 : Hp, SameX g H H5 → H5 tn = some (.tup ((zsOf xs).map V.str)) → ∀ dP : Addr, H5 dP = some (.dK (kvP xs)) → ∀ dN : Addr, H5 dN = some (.dK (kvN xs)) → H5 g = some (.ins (CG K) dx (pgf tn z dP dN)) → H dP = none → H dN = none → Q .non H5 := fun H5 x5 h1 dP h2 dN h3 h4 h5 h6 => by
        have hq := hp.extX hg x5
        exact k H5 dx tn dP dN x5 ⟨h4, h1, h2, h3, hq.pl, hq.ns, hq.nd, hq.l1, hq.l6, hq.nm⟩ h5 h6
      rcases hst with rfl | ⟨rfl, h0⟩
      · refine ⟨_, rfl, rfl, true, rfl, iteT ⟨_, rfl, _, rfl, .str z, tn, zsOf xs, rfl, SqT.of hn4, .inl ⟨z, rfl, true, by rw [decide_eq_true hz], iteF ?_⟩⟩⟩
        refine ⟨_, rfl, _, rfl, g, _, dx, [], rfl, hg4, T.c_Program, T.nA, (by show 0 < 1000; decide), ?_⟩
        refine ⟨_, rfl, rfl, false, rfl, iteF ⟨_, rfl, _, rfl, g, _, dx, _, rfl, upd_same, T.c_Program, T.nB, (by show 1 < 1000; decide), ?_⟩⟩
        have x5 : SameX g H (upd (upd H4 g (.ins (CG K) dx (putF "names" (.ref tn) []))) g (.ins (CG K) dx (putF "start" (.str z) (putF "names" (.ref tn) [])))) := (same_x s4).trans (SameX.upd.trans SameX.upd)
        have hg5 : (upd (upd H4 g (.ins (CG K) dx (putF "names" (.ref tn) []))) g (.ins (CG K) dx (putF "start" (.str z) (putF "names" (.ref tn) [])))) g = some (.ins (CG K) dx (putF "start" (.str z) (putF "names" (.ref tn) []))) := upd_same
        have hn5 : (upd (upd H4 g (.ins (CG K) dx (putF "names" (.ref tn) []))) g (.ins (CG K) dx (putF "start" (.str z) (putF "names" (.ref tn) [])))) tn = some (.tup ((zsOf xs).map V.str)) := by rw [upd_ne ngt, upd_ne ngt]; exact hn4
        generalize upd (upd H4 g (.ins (CG K) dx (putF "names" (.ref tn) []))) g (.ins (CG K) dx (putF "start" (.str z) (putF "names" (.ref tn) []))) = H5 at x5 hg5 hn5 ⊢
        clear hn4 hg4 s4 H4
        have hp5 := hp.extX hg x5
        refine ⟨_, rfl, L, rfl, ⟨_, SqT.of hp5.hL⟩, fun D nD => dc_it walk_tup (fun i H' => Same H5 H' ∧ H' D = some (.dK ((xs.take i).map fun y => ((Sum.inr y.2.2.z : Key), V.ref y.1)))) ⟨same_new nD, by rw [upd_same]; rfl⟩ (fun i H' _ h => SqT.ext (SqT.of hp5.hL) h.1) ?_ ?_⟩
        · rintro i x H6 H' hi ⟨sg, hD⟩ ⟨rfl, hx⟩
          obtain ⟨y, hy, rfl⟩ := getE hx
          obtain ⟨dy, ey⟩ := (hp5.pl y (List.mem_of_getElem? hy)).ext sg
          refine ⟨rfl, _, rfl, y.1, _, dy, _, _, rfl, ey, T.c_Place, T.nN, plf_name .., _, rfl, _, Sum.inr y.2.2.z, rfl, hD, ?_, same_app sg (Same.refl _) nD, ?_⟩
          · rw [List.length_map, List.length_take]
            rw [List.length_map] at hi
            exact Nat.lt_of_le_of_lt (Nat.min_le_left _ _) (Nat.lt_of_lt_of_le hi (Nat.le_trans hp.l6 (by decide)))
          · rw [upd_same, put_row (f := fun y => V.ref y.1) hp.nd hy]
        rintro H6 ⟨s56, hD⟩
        rw [List.length_map, List.take_length] at hD
        have hg6 := s56 _ _ hg5
        have nDg : D ≠ g := ne_of hD hg6 (by intro z; cases z)
        refine ⟨_, rfl, g, _, dx, _, rfl, hg6, T.c_Program, T.nC, (by show 2 < 1000; decide), ?_⟩
        have x7 : SameX g H (upd H6 g (.ins (CG K) dx (putF "_places" (.ref D) (putF "start" (.str z) (putF "names" (.ref tn) []))))) := (x5.trans (same_x s56)).trans SameX.upd
        have hg7 : (upd H6 g (.ins (CG K) dx (putF "_places" (.ref D) (putF "start" (.str z) (putF "names" (.ref tn) []))))) g = some (.ins (CG K) dx (putF "_places" (.ref D) (putF "start" (.str z) (putF "names" (.ref tn) [])))) := upd_same
        have hn7 : (upd H6 g (.ins (CG K) dx (putF "_places" (.ref D) (putF "start" (.str z) (putF "names" (.ref tn) []))))) tn = some (.tup ((zsOf xs).map V.str)) := by rw [upd_ne ngt]; exact s56 _ _ hn5
        have hD7 : (upd H6 g (.ins (CG K) dx (putF "_places" (.ref D) (putF "start" (.str z) (putF "names" (.ref tn) []))))) D = some (.dK (kvP xs)) := by rw [upd_ne nDg]; exact hD
        generalize upd H6 g (.ins (CG K) dx (putF "_places" (.ref D) (putF "start" (.str z) (putF "names" (.ref tn) [])))) = H7 at x7 hg7 hn7 hD7 ⊢
        have nD0 := none_x x5 nDg nD
        clear hg6 hD s56 nD hp5 hn5 hg5 x5 H6 H5
        have hp7 := hp.extX hg x7
        obtain ⟨kvs, hN, hl, hv⟩ := hp7.nx
        refine ⟨_, rfl, tn, rfl, ⟨_, SqT.of hn7⟩, fun D2 nD2 => dc_it walk_tup (fun i H' => Same H7 H' ∧ H' D2 = some (.dK ((xs.take i).map fun y => ((Sum.inr y.2.2.z : Key), V.ref y.2.1)))) ⟨same_new nD2, by rw [upd_same]; rfl⟩ (fun i H' _ h => SqT.ext (SqT.of hn7) h.1) ?_ ?_⟩
        · rintro i x H8 H' hi ⟨sg, hD2⟩ ⟨rfl, hx⟩
          obtain ⟨y, hy, rfl⟩ := zsAt hx
          refine ⟨rfl, _, rfl, _, rfl, _, rfl, N, _, rfl, dget_of (sg _ _ hN) (hv y (List.mem_of_getElem? hy)), _, Sum.inr y.2.2.z, rfl, hD2, ?_, same_app sg (Same.refl _) nD2, ?_⟩
          · rw [List.length_map, List.length_take]
            rw [List.length_map, hlz] at hi
            exact Nat.lt_of_le_of_lt (Nat.min_le_left _ _) (Nat.lt_of_lt_of_le hi (Nat.le_trans hp.l6 (by decide)))
          · rw [upd_same, put_row (f := fun y => V.ref y.2.1) hp.nd hy]
        rintro H8 ⟨s78, hD2⟩
        rw [List.length_map, hlz, List.take_length] at hD2
        have hg8 := s78 _ _ hg7
        have nDg2 : D2 ≠ g := ne_of hD2 hg8 (by intro z; cases z)
        refine ⟨_, rfl, g, _, dx, _, rfl, hg8, T.c_Program, T.nD, (by show 3 < 1000; decide), ?_⟩
        exact fin _ ((x7.trans (same_x s78)).trans SameX.upd) (by rw [upd_ne ngt]; exact s78 _ _ hn7) D (by rw [upd_ne nDg]; exact s78 _ _ hD7) D2 (by rw [upd_ne nDg2]; exact hD2) upd_same nD0 (none_x x7 nDg2 nD2)
      · refine ⟨_, rfl, rfl, false, rfl, iteF ?_⟩
        refine ⟨_, rfl, _, rfl, g, _, dx, [], rfl, hg4, T.c_Program, T.nA, (by show 0 < 1000; decide), ?_⟩
        have a0 : atI ((zsOf xs).map V.str) 0 = some (.str z) := atI_nat (j := 0) (by rw [List.getElem?_map, h0]; rfl)
        have hn4' : (upd H4 g (.ins (CG K) dx (putF "names" (.ref tn) []))) tn = some (.tup ((zsOf xs).map V.str)) := by rw [upd_ne ngt]; exact hn4
        refine ⟨_, rfl, rfl, true, rfl, iteT ⟨_, rfl, tn, _, 0, .str z, rfl, rfl, SqT.of hn4', a0, _, rfl, g, _, dx, _, rfl, upd_same, T.c_Program, T.nB, (by show 1 < 1000; decide), ?_⟩⟩
        clear hn4' a0
        have x5 : SameX g H (upd (upd H4 g (.ins (CG K) dx (putF "names" (.ref tn) []))) g (.ins (CG K) dx (putF "start" (.str z) (putF "names" (.ref tn) [])))) := (same_x s4).trans (SameX.upd.trans SameX.upd)
        have hg5 : (upd (upd H4 g (.ins (CG K) dx (putF "names" (.ref tn) []))) g (.ins (CG K) dx (putF "start" (.str z) (putF "names" (.ref tn) [])))) g = some (.ins (CG K) dx (putF "start" (.str z) (putF "names" (.ref tn) []))) := upd_same
        have hn5 : (upd (upd H4 g (.ins (CG K) dx (putF "names" (.ref tn) []))) g (.ins (CG K) dx (putF "start" (.str z) (putF "names" (.ref tn) [])))) tn = some (.tup ((zsOf xs).map V.str)) := by rw [upd_ne ngt, upd_ne ngt]; exact hn4
        generalize upd (upd H4 g (.ins (CG K) dx (putF "names" (.ref tn) []))) g (.ins (CG K) dx (putF "start" (.str z) (putF "names" (.ref tn) []))) = H5 at x5 hg5 hn5 ⊢
        clear hn4 hg4 s4 H4
        have hp5 := hp.extX hg x5
        refine ⟨_, rfl, L, rfl, ⟨_, SqT.of hp5.hL⟩, fun D nD => dc_it walk_tup (fun i H' => Same H5 H' ∧ H' D = some (.dK ((xs.take i).map fun y => ((Sum.inr y.2.2.z : Key), V.ref y.1)))) ⟨same_new nD, by rw [upd_same]; rfl⟩ (fun i H' _ h => SqT.ext (SqT.of hp5.hL) h.1) ?_ ?_⟩
        · rintro i x H6 H' hi ⟨sg, hD⟩ ⟨rfl, hx⟩
          obtain ⟨y, hy, rfl⟩ := getE hx
          obtain ⟨dy, ey⟩ := (hp5.pl y (List.mem_of_getElem? hy)).ext sg
          refine ⟨rfl, _, rfl, y.1, _, dy, _, _, rfl, ey, T.c_Place, T.nN, plf_name .., _, rfl, _, Sum.inr y.2.2.z, rfl, hD, ?_, same_app sg (Same.refl _) nD, ?_⟩
          · rw [List.length_map, List.length_take]
            rw [List.length_map] at hi
            exact Nat.lt_of_le_of_lt (Nat.min_le_left _ _) (Nat.lt_of_lt_of_le hi (Nat.le_trans hp.l6 (by decide)))
          · rw [upd_same, put_row (f := fun y => V.ref y.1) hp.nd hy]
        rintro H6 ⟨s56, hD⟩
        rw [List.length_map, List.take_length] at hD
        have hg6 := s56 _ _ hg5
        have nDg : D ≠ g := ne_of hD hg6 (by intro z; cases z)
        refine ⟨_, rfl, g, _, dx, _, rfl, hg6, T.c_Program, T.nC, (by show 2 < 1000; decide), ?_⟩
        have x7 : SameX g H (upd H6 g (.ins (CG K) dx (putF "_places" (.ref D) (putF "start" (.str z) (putF "names" (.ref tn) []))))) := (x5.trans (same_x s56)).trans SameX.upd
        have hg7 : (upd H6 g (.ins (CG K) dx (putF "_places" (.ref D) (putF "start" (.str z) (putF "names" (.ref tn) []))))) g = some (.ins (CG K) dx (putF "_places" (.ref D) (putF "start" (.str z) (putF "names" (.ref tn) [])))) := upd_same
        have hn7 : (upd H6 g (.ins (CG K) dx (putF "_places" (.ref D) (putF "start" (.str z) (putF "names" (.ref tn) []))))) tn = some (.tup ((zsOf xs).map V.str)) := by rw [upd_ne ngt]; exact s56 _ _ hn5
        have hD7 : (upd H6 g (.ins (CG K) dx (putF "_places" (.ref D) (putF "start" (.str z) (putF "names" (.ref tn) []))))) D = some (.dK (kvP xs)) := by rw [upd_ne nDg]; exact hD
        generalize upd H6 g (.ins (CG K) dx (putF "_places" (.ref D) (putF "start" (.str z) (putF "names" (.ref tn) [])))) = H7 at x7 hg7 hn7 hD7 ⊢
        have nD0 := none_x x5 nDg nD
        clear hg6 hD s56 nD hp5 hn5 hg5 x5 H6 H5
        have hp7 := hp.extX hg x7
        obtain ⟨kvs, hN, hl, hv⟩ := hp7.nx
        refine ⟨_, rfl, tn, rfl, ⟨_, SqT.of hn7⟩, fun D2 nD2 => dc_it walk_tup (fun i H' => Same H7 H' ∧ H' D2 = some (.dK ((xs.take i).map fun y => ((Sum.inr y.2.2.z : Key), V.ref y.2.1)))) ⟨same_new nD2, by rw [upd_same]; rfl⟩ (fun i H' _ h => SqT.ext (SqT.of hn7) h.1) ?_ ?_⟩
        · rintro i x H8 H' hi ⟨sg, hD2⟩ ⟨rfl, hx⟩
          obtain ⟨y, hy, rfl⟩ := zsAt hx
          refine ⟨rfl, _, rfl, _, rfl, _, rfl, N, _, rfl, dget_of (sg _ _ hN) (hv y (List.mem_of_getElem? hy)), _, Sum.inr y.2.2.z, rfl, hD2, ?_, same_app sg (Same.refl _) nD2, ?_⟩
          · rw [List.length_map, List.length_take]
            rw [List.length_map, hlz] at hi
            exact Nat.lt_of_le_of_lt (Nat.min_le_left _ _) (Nat.lt_of_lt_of_le hi (Nat.le_trans hp.l6 (by decide)))
          · rw [upd_same, put_row (f := fun y => V.ref y.2.1) hp.nd hy]
        rintro H8 ⟨s78, hD2⟩
        rw [List.length_map, hlz, List.take_length] at hD2
        have hg8 := s78 _ _ hg7
        have nDg2 : D2 ≠ g := ne_of hD2 hg8 (by intro z; cases z)
        refine ⟨_, rfl, g, _, dx, _, rfl, hg8, T.c_Program, T.nD, (by show 3 < 1000; decide), ?_⟩
        exact fin _ ((x7.trans (same_x s78)).trans SameX.upd) (by rw [upd_ne ngt]; exact s78 _ _ hn7) D (by rw [upd_ne nDg]; exact s78 _ _ hD7) D2 (by rw [upd_ne nDg2]; exact hD2) upd_same nD0 (none_x x7 nDg2 nD2)
theorem O_Program2k {fd : FuncData} (F : FunD K "__init__" "Program.__init__" (defArgs s_Program_init) (defBody s_Program_init) (defScope s_Program_init) [] [("start", .non)] (He.fAd K ("Program", some "__init__")) fd) (G : FnOk P w K mg base (L2.CX P w) 5 (He.fAd K ("Program", some "__init__")) fd ["self", "places", "nexts", "start"] (spPgI K)) :
    OkK P w K mg base (L2.CX P w) 5 ("Program", some "__init__") ["self", "places", "nexts", "start"] 3 ["start"] (fun vs zs => vs ++ zs) (spPgI K) := by
  obtain ⟨mv, b⟩ := F.kbinds0 (ps := ["self", "places", "nexts", "start"]) 3 ["start"] [] (fun us _ ws => us ++ ws) (by decide) (fun _ h => nomatch h) (fun r1 _ r4 => r1.append r4)
    fun D doc pm an cdv ct us mv ws h1 h3 h4 => match us, mv, ws, h1, h3, h4 with | [_, _, _], [], [_], _, _, _ => rfl
  exact ⟨fd, _, G, b⟩
theorem O_Program2 {fd : FuncData} (F : FunD K "__init__" "Program.__init__" (defArgs s_Program_init) (defBody s_Program_init) (defScope s_Program_init) [] [("start", .non)] (He.fAd K ("Program", some "__init__")) fd) (G : FnOk P w K mg base (L2.CX P w) 5 (He.fAd K ("Program", some "__init__")) fd ["self", "places", "nexts", "start"] (spPgI K)) :
    OkK P w K mg base (L2.CX P w) 5 ("Program", some "__init__") ["self", "places", "nexts", "start"] 3 [] (fun vs _ => vs ++ [.non]) (spPgI K) := by
  obtain ⟨mv, b⟩ := F.kbinds0 (ps := ["self", "places", "nexts", "start"]) 3 [] [("start", .non)] (fun us mv _ => us ++ mv) (by decide) (fun _ h => h) (fun r1 r2 _ => r1.append r2)
    fun D doc pm an cdv ct us mv ws h1 h3 h4 => match us, mv, ws, h1, h3, h4 with | [_, _, _], [_], [], _, _, _ => ⟨_, _, _, _, _, _, rfl, rfl, rfl⟩
  exact ⟨fd, _, G, b⟩
end
end K36

set_option Elab.async false
set_option linter.all false
set_option pp.deepTerms.threshold 14
set_option pp.maxSteps 2500
set_option maxRecDepth 100000
set_option maxHeartbeats 2000000
namespace K36
open PySem PySem.Spec PyProof.Rows L2 Vf
section
variable {P : Program} {w : World} {K : PySem.W.Frag} {mg : Str → Option Value} {base : Heap}
structure GMeth (K : PySem.W.Frag) : Prop where
  p_eq : Meth K (He.ga K "Place") "__eq__" (He.fAd K ("Place", some "__eq__"))
  p_ne : PySem.W.findIn K (.ref (He.ga K "Place")) "__ne__" = some (some (.builtin "object.__ne__"))
  m_eq : Meth K (He.ga K "Program") "__eq__" (He.fAd K ("Program", some "__eq__"))
  m_ne : PySem.W.findIn K (.ref (He.ga K "Program")) "__ne__" = some (some (.builtin "object.__ne__"))
  m_contains : Meth K (He.ga K "Program") "__contains__" (He.fAd K ("Program", some "__contains__"))
  m_getitem : Meth K (He.ga K "Program") "__getitem__" (He.fAd K ("Program", some "__getitem__"))
  f_getitem : PySem.W.fnIn K (He.fAd K ("Program", some "__getitem__")) = true
theorem sc_NoPlace_init : FnScope ["self", "name"] ["self", "name"] (defScope s_NoPlace_init) := ⟨rfl, rfl, rfl, by decide +kernel, rfl, by decide +kernel, by decide +kernel⟩
-- slots: 0 self, 1 name
abbrev CNP (K : PySem.W.Frag) : Addr := He.ga K "NoPlace"
theorem ok_NoPlace_init {fd : FuncData} (F : FnD K ("NoPlace", some "__init__") "__init__" "NoPlace.__init__" s_NoPlace_init fd) : OkD P w K mg base CX0 1 ("NoPlace", some "__init__") ["self", "name"] [] (spExI K (CNP K) "name") := by
  refine okd F (F.ok sc_NoPlace_init (fun vs H Q E h => ?_) fun cdv A outer s H vs Q E hr h => ⟨tOst K "name" (tVar 0) (tVar 1), PSs.nox ?_, run_exI h⟩) fun _ _ _ _ _ _ us hl => match us, hl with | [_, _], _ => rfl
  · obtain ⟨a, v, rfl, _⟩ := h
    rfl
  · exact pss_one (ps_ost (pv 0) (pv 1))
theorem sc_Program_contains : FnScope ["self", "x"] ["self", "x"] (defScope s_Program_contains) := ⟨rfl, rfl, rfl, by decide +kernel, rfl, by decide +kernel, by decide +kernel⟩
-- slots: 0 self, 1 x
def spCon (K : PySem.W.Frag) : Sp := fun vs H Q _ => ∃ (g : Addr) (x : V) (xs : List PgE) (st : Str) (dx tn dP dN : Addr), vs = [.ref g, x] ∧ PgA K H g xs st dx tn dP dN ∧ ((∃ z, x = .str z ∧ Q (.bl (decide (z ∈ zsOf xs))) H) ∨ (OddS H x ∧ Q (.bl false) H))
theorem ok_Program_contains {fd : FuncData} (F : FnD K ("Program", some "__contains__") "__contains__" "Program.__contains__" s_Program_contains fd) (T : GTxt K mg) (O_is_one_of : OkF P w K mg base CX0 1 "is_one_of" ["x", "names"] (spOne K)) : OkM P w K mg base CX0 2 "Program" "__contains__" ["self", "x"] (spCon K) := by
  refine okd F (F.ok sc_Program_contains (fun vs H Q E h => ?_) fun cdv A outer s H vs Q E hr h => ?_) fun _ _ _ _ _ _ us hl => match us, hl with | [_, _], _ => rfl
  · obtain ⟨g, x, xs, st, dx, tn, dP, dN, rfl, _⟩ := h
    rfl
  · obtain ⟨g, x, xs, st, dx, tn, dP, dN, rfl, hp, h⟩ := h
    refine ⟨_, PSs.nox (pss_one (ps_ret (c_fn O_is_one_of hr (by decide) T.g_is_one_of pass0 (pa_cons (pv 1) (pa_cons (pe_fld (pv 0) rfl) pa_nil))))), ?_⟩
    exact ⟨_, rfl, _, rfl, g, _, dx, _, _, rfl, hp.hg, T.c_Program, T.nA, pgf_names .., x, tn, zsOf xs, rfl, SqT.of hp.hn, h⟩
theorem sc_Program_getitem : FnScope ["self", "at"] ["self", "at"] (defScope s_Program_getitem) := ⟨rfl, rfl, rfl, by decide +kernel, rfl, by decide +kernel, by decide +kernel⟩
-- slots: 0 self, 1 at
def spGet (K : PySem.W.Frag) : Sp := fun vs H Q E => ∃ (g : Addr) (x : V) (xs : List PgE) (st : Str) (dx tn dP dN : Addr), vs = [.ref g, x] ∧ PgA K H g xs st dx tn dP dN ∧
  ((∃ (i : Nat) (y : PgE), xs[i]? = some y ∧ x = .str y.2.2.z ∧ Q (.ref y.1) H) ∨ (((∃ z, x = .str z ∧ z ∉ zsOf xs) ∨ OddS H x) ∧ ∀ d, H d = none → E (.ref (CNP K)) (some d) (upd H d (.xd [("name", x)]))))
theorem ok_Program_getitem {fd : FuncData} (F : FnD K ("Program", some "__getitem__") "__getitem__" "Program.__getitem__" s_Program_getitem fd) (T : GTxt K mg) (M : GMeth K) (O_contains : OkM P w K mg base CX0 2 "Program" "__contains__" ["self", "x"] (spCon K))
    (O_NoPlace_init : OkD P w K mg base CX0 1 ("NoPlace", some "__init__") ["self", "name"] [] (spExI K (CNP K) "name")) : OkM P w K mg base (L2.CX P w) 4 "Program" "__getitem__" ["self", "at"] (spGet K) := by
  refine okd F (F.ok sc_Program_getitem (fun vs H Q E h => ?_) fun cdv A outer s H vs Q E hr h => ?_) fun _ _ _ _ _ _ us hl => match us, hl with | [_, _], _ => rfl
  · obtain ⟨g, x, xs, st, dx, tn, dP, dN, rfl, _⟩ := h
    rfl
  · obtain ⟨g, x, xs, st, dx, tn, dP, dN, rfl, hp, h⟩ := h
    refine ⟨_, (pss_cons (ps_if (pt_cmpR (op_notInO M.m_contains O_contains hr (by decide)) (pv 1) (pv 0) rfl) (pss_one (c_raise T.x_NoPlace O_NoPlace_init hr (by decide) T.g_NoPlace (takes_of rfl rfl rfl rfl) (pa_cons (pv 1) pa_nil)))
  pss_nil)
  (pss_one (ps_ret (pe_dget (hu_of hr) (pe_fld (pv 0) rfl) (pv 1) (fun _ _ => rfl))))), ?_⟩
    rcases h with ⟨i, y, hy, rfl, q⟩ | ⟨hx, q⟩
    · have hm : y.2.2.z ∈ zsOf xs := List.mem_map_of_mem (List.mem_of_getElem? hy)
      refine ⟨_, rfl, _, rfl, g, dx, _, rfl, hp.hg, g, _, xs, st, dx, tn, dP, dN, rfl, hp, .inl ⟨_, rfl, _, rfl, false, by rw [decide_eq_true hm]; rfl, iteF ?_⟩⟩
      exact ⟨_, rfl, g, _, dx, _, _, rfl, hp.hg, T.c_Program, T.nC, pgf_places .., _, rfl, dP, _, rfl, dget_of hp.hP (val_row (f := fun y => V.ref y.1) hp.nd hy), q⟩
    · rcases hx with ⟨z, rfl, hz⟩ | o
      · exact ⟨_, rfl, _, rfl, g, dx, _, rfl, hp.hg, g, _, xs, st, dx, tn, dP, dN, rfl, hp, .inl ⟨_, rfl, _, rfl, true, by rw [decide_eq_false hz]; rfl, iteT ⟨_, rfl, _, rfl, fun d hd => q d hd⟩⟩⟩
      · exact ⟨_, rfl, _, rfl, g, dx, _, rfl, hp.hg, g, _, xs, st, dx, tn, dP, dN, rfl, hp, .inr ⟨o, _, rfl, true, rfl, iteT ⟨_, rfl, _, rfl, fun d hd => q d hd⟩⟩⟩
/-! ### two programs -/
def plOf (xs : List PgE) : List (Str × Int × Int × Bool) := xs.map fun x => (x.2.2.z, x.2.2.l, x.2.2.m, x.2.2.b)
def nsOf (xs : List PgE) : List (List Str) := xs.map fun x => x.2.2.ns
def pgB (xs xs' : List PgE) (st st' : Str) : Bool := decide (zsOf xs = zsOf xs') && (decide (plOf xs = plOf xs') && (decide (nsOf xs = nsOf xs') && decide (st = st')))
def zipAll (f : PgE → PgE → Bool) : List PgE → List PgE → Bool
  | y :: ys, y' :: ys' => f y y' && zipAll f ys ys'
  | _, _ => true
def plE (y y' : PgE) : Bool := plB y.2.2.z y'.2.2.z y.2.2.l y'.2.2.l y.2.2.m y'.2.2.m y.2.2.b y'.2.2.b
def nsE (y y' : PgE) : Bool := decide (y.2.2.ns = y'.2.2.ns)
theorem cons_dec {α : Type} [DecidableEq α] (a a' : α) (l l' : List α) : decide (a :: l = a' :: l') = (decide (a = a') && decide (l = l')) := by
  rw [Bool.eq_iff_iff]
  simp
theorem zip_pl : ∀ {ys ys' : List PgE}, ys.length = ys'.length → zipAll plE ys ys' = decide (plOf ys = plOf ys')
  | [], [], _ => rfl
  | y :: ys, y' :: ys', h => by
    have e : plE y y' = decide ((y.2.2.z, y.2.2.l, y.2.2.m, y.2.2.b) = (y'.2.2.z, y'.2.2.l, y'.2.2.m, y'.2.2.b)) := by
      unfold plE plB
      rw [Bool.eq_iff_iff]
      simp [Prod.ext_iff]
    show (plE y y' && zipAll plE ys ys') = decide ((y.2.2.z, y.2.2.l, y.2.2.m, y.2.2.b) :: plOf ys = (y'.2.2.z, y'.2.2.l, y'.2.2.m, y'.2.2.b) :: plOf ys')
    rw [cons_dec, zip_pl (Nat.succ.inj h), e]
theorem zip_ns : ∀ {ys ys' : List PgE}, ys.length = ys'.length → zipAll nsE ys ys' = decide (nsOf ys = nsOf ys')
  | [], [], _ => rfl
  | y :: ys, y' :: ys', h => by
    show (nsE y y' && zipAll nsE ys ys') = decide (y.2.2.ns :: nsOf ys = y'.2.2.ns :: nsOf ys')
    rw [cons_dec, zip_ns (Nat.succ.inj h)]
    rfl
theorem hits_rows {D : V → V → Bool → Prop} {f : PgE → V} {r : PgE → PgE → Bool} {xs' : List PgE} (nd : (zsOf xs').Nodup) : ∀ {ys ys' : List PgE}, (∀ y ∈ ys', ∃ i : Nat, xs'[i]? = some y) → zsOf ys = zsOf ys' → (∀ y ∈ ys, ∀ y' ∈ ys', D (f y) (f y') (r y y')) →
    DHits D (xs'.map fun y => ((Sum.inr y.2.2.z : Key), f y)) (ys.map fun y => ((Sum.inr y.2.2.z : Key), f y)) (zipAll r ys ys')
  | [], [], _, _, _ => .nil
  | [], _ :: _, _, h, _ => nomatch h
  | _ :: _, [], _, h, _ => nomatch h
  | y :: ys, y' :: ys', hi, hz, hd => by
    have h1 : y.2.2.z = y'.2.2.z := (List.cons.inj hz).1
    have h2 : zsOf ys = zsOf ys' := (List.cons.inj hz).2
    obtain ⟨i, e⟩ := hi y' (List.mem_cons_self ..)
    refine .hit (y := f y') ?_ (hd y (List.mem_cons_self ..) y' (List.mem_cons_self ..)) (hits_rows nd (fun v hv => hi v (List.mem_cons_of_mem _ hv)) h2 fun v hv v' hv' => hd v (List.mem_cons_of_mem _ hv) v' (List.mem_cons_of_mem _ hv'))
    rw [h1]
    exact val_row nd e
def strD (zs : List Str) : PyData := .tuple (zs.map PyData.str)
theorem strs_dp {H : Hp} : ∀ {zs : List Str}, DpAll K H (zs.map V.str) (zs.map PyData.str)
  | [] => .nil
  | _ :: _ => .cons (.str _) strs_dp
theorem strs_eq : ∀ {zs zs' : List Str}, PyData.eqvAll (zs.map PyData.str) (zs'.map PyData.str) = decide (zs = zs')
  | [], [] => rfl
  | [], _ :: _ => rfl
  | _ :: _, [] => rfl
  | z :: zs, z' :: zs' => by
    rw [cons_dec]
    show ((z == z') && PyData.eqvAll (zs.map PyData.str) (zs'.map PyData.str)) = _
    rw [strs_eq]
    rfl
end
end K36

set_option Elab.async false
set_option linter.all false
set_option pp.deepTerms.threshold 14
set_option pp.maxSteps 2500
set_option maxRecDepth 100000
set_option maxHeartbeats 2000000
namespace K36
open PySem PySem.Spec PyProof.Rows L2 Vf
section
variable {P : Program} {w : World} {K : PySem.W.Frag} {mg : Str → Option Value} {base : Heap}
structure RTxt (K : PySem.W.Frag) (mg : Str → Option Value) : Prop extends GTxt K mg where
  i_MOST_PERIOD : ∃ t, mg "MOST_PERIOD" = some (.int 8 t)
  g_Sampler : mg "Sampler" = some (.ref (He.ga K "Sampler"))
  g_BadSampler : mg "BadSampler" = some (.ref (He.ga K "BadSampler"))
  c_Sampler : Cls K (He.ga K "Sampler")
  m_Sampler : Mk K (He.ga K "Sampler") (He.fAd K ("Sampler", some "__init__"))
  sP : NoAttr K (He.ga K "Sampler") "period"
  sJ : NoAttr K (He.ga K "Sampler") "jitter"
  sF : NoAttr K (He.ga K "Sampler") "phase"
  x_BadSampler : ExI K "BadSampler" "why"
/-! ### a sampler's fields -/
def saf (n i : Int) (f : V) : List (Str × V) := putF "phase" f (putF "jitter" (.int i) (putF "period" (.int n) []))
theorem saf_period (n i : Int) (f : V) : (saf n i f).lookup ("period" : Str) = some (.int n) := by
  unfold saf
  rw [lookup_putF, if_neg (by decide +kernel), lookup_putF, if_neg (by decide +kernel), lookup_putF, if_pos rfl]
theorem saf_jitter (n i : Int) (f : V) : (saf n i f).lookup ("jitter" : Str) = some (.int i) := by
  unfold saf
  rw [lookup_putF, if_neg (by decide +kernel), lookup_putF, if_pos rfl]
theorem saf_phase (n i : Int) (f : V) : (saf n i f).lookup ("phase" : Str) = some f := by
  unfold saf
  rw [lookup_putF, if_pos rfl]
theorem saf_with (n i : Int) (f : V) : (saf n i f).lookup ("with_values" : Str) = none := by
  unfold saf
  rw [lookup_putF, if_neg (by decide +kernel), lookup_putF, if_neg (by decide +kernel), lookup_putF, if_neg (by decide +kernel)]
  rfl
/-- at p a sampler -/
def SaA (C : Addr) (H : Hp) (p : Addr) (n i : Int) (f : V) : Prop := ∃ dx, H p = some (.ins C dx (saf n i f))
theorem SaA.ext {C : Addr} {H H' : Hp} {p : Addr} {n i : Int} {f : V} (h : SaA C H p n i f) (s : Same H H') : SaA C H' p n i f := by
  obtain ⟨dx, e⟩ := h
  exact ⟨dx, s _ _ e⟩
abbrev CS (K : PySem.W.Frag) : Addr := He.ga K "Sampler"
abbrev CBS (K : PySem.W.Frag) : Addr := He.ga K "BadSampler"
theorem sc_BadSampler_init : FnScope ["self", "why"] ["self", "why"] (defScope s_BadSampler_init) := ⟨rfl, rfl, rfl, by decide +kernel, rfl, by decide +kernel, by decide +kernel⟩
-- slots: 0 self, 1 why
theorem ok_BadSampler_init {fd : FuncData} (F : FnD K ("BadSampler", some "__init__") "__init__" "BadSampler.__init__" s_BadSampler_init fd) : OkD P w K mg base CX0 1 ("BadSampler", some "__init__") ["self", "why"] [] (spExI K (CBS K) "why") := by
  refine okd F (F.ok sc_BadSampler_init (fun vs H Q E h => ?_) fun cdv A outer s H vs Q E hr h => ⟨tOst K "why" (tVar 0) (tVar 1), PSs.nox ?_, run_exI h⟩) fun _ _ _ _ _ _ us hl => match us, hl with | [_, _], _ => rfl
  · obtain ⟨a, v, rfl, _⟩ := h
    rfl
  · exact pss_one (ps_ost (pv 0) (pv 1))
/-- an int or another value -/
def Any (H : Hp) (x : V) : Prop := (∃ q : Int, x = .int q) ∨ Odd H x
theorem Any.ext {H H' : Hp} {x : V} (o : Any H x) (s : Same H H') : Any H' x := o.imp id fun o => o.ext s
/-- what a sampler is refused for -/
inductive SaIn (H : Hp) (x j f : V) : Str → Prop where
  | period (h : NotFr H x 1 8) : SaIn H x j f "period"
  | jitter (n : Int) (hx : x = .int n) (n1 : 1 ≤ n) (n2 : n ≤ 8) (h : NotFr H j 0 (n - 1)) : SaIn H x j f "jitter"
  | phase (n i : Int) (hx : x = .int n) (n1 : 1 ≤ n) (n2 : n ≤ 8) (hj : j = .int i) (i0 : 0 ≤ i) (i1 : i ≤ n - 1) (hf : f ≠ .non) (h : NotFr H f 0 (n - 1)) : SaIn H x j f "phase"
def PhOk (f : V) (n : Int) : Prop := f = .non ∨ ∃ q : Int, f = .int q ∧ 0 ≤ q ∧ q ≤ n - 1
/-- the parts of a sampler that is made -/
def SaOk (x j f : V) (n i : Int) : Prop := x = .int n ∧ 1 ≤ n ∧ n ≤ 8 ∧ j = .int i ∧ 0 ≤ i ∧ i ≤ n - 1 ∧ PhOk f n
theorem SaIn.ext {H H' : Hp} {x j f : V} {w : Str} (h : SaIn H x j f w) (s : Same H H') : SaIn H' x j f w := by
  cases h with
  | period h => exact .period (h.ext s)
  | jitter n hx n1 n2 h => exact .jitter n hx n1 n2 (h.ext s)
  | phase n i hx n1 n2 hj i0 i1 hf h => exact .phase n i hx n1 n2 hj i0 i1 hf (h.ext s)
def spSaI (K : PySem.W.Frag) : Sp := fun vs H Q E => ∃ (p dx : Addr) (x j f : V), vs = [.ref p, x, j, f] ∧ H p = some (.ins (CS K) dx []) ∧
  ((∃ w, SaIn H x j f w ∧ ∀ d, H d = none → E (.ref (CBS K)) (some d) (upd H d (.xd [("why", .str w)]))) ∨
   (∃ n i, SaOk x j f n i ∧ Q .non (upd H p (.ins (CS K) dx (saf n i f)))))
theorem sc_Sampler_init : FnScope ["self", "period", "jitter", "phase"] ["self", "period", "jitter", "phase"] (defScope s_Sampler_init) := ⟨rfl, rfl, rfl, by decide +kernel, rfl, by decide +kernel, by decide +kernel⟩
-- slots: 0 self, 1 period, 2 jitter, 3 phase
theorem ok_Sampler_init {fd : FuncData} (F : FunD K "__init__" "Sampler.__init__" (defArgs s_Sampler_init) (defBody s_Sampler_init) (defScope s_Sampler_init) [.int 0] [("phase", .int 0)] (He.fAd K ("Sampler", some "__init__")) fd) (T : RTxt K mg)
    (O_is_integer_from : OkF P w K mg base CX0 2 "is_integer_from" ["x", "low", "high"] spFr)
    (O_BadSampler_init : OkD P w K mg base CX0 1 ("BadSampler", some "__init__") ["self", "why"] [] (spExI K (CBS K) "why")) :
    FnOk P w K mg base (L2.CX P w) 4 (He.fAd K ("Sampler", some "__init__")) fd ["self", "period", "jitter", "phase"] (spSaI K) := by
  refine F.ok sc_Sampler_init (fun vs H Q E h => ?_) fun cdv A outer s H vs Q E hr h => ?_
  · obtain ⟨p, dx, x, j, f, rfl, _⟩ := h
    rfl
  · obtain ⟨p, dx, x, j, f, rfl, hp, h⟩ := h
    refine ⟨_, (pss_cons (ps_if (pt_not (pt_val (c_fn O_is_integer_from hr (by decide) T.g_is_integer_from pass0 (pa_cons (pv 1) (pa_cons pe_int (pa_cons (c_gint T.i_MOST_PERIOD) pa_nil)))))) (pss_one (c_raise T.x_BadSampler O_BadSampler_init hr (by decide) T.g_BadSampler (takes_of rfl rfl rfl rfl) (pa_cons pe_str pa_nil)))
  pss_nil)
  (pss_cons (ps_if (pt_not (pt_val (c_fn O_is_integer_from hr (by decide) T.g_is_integer_from pass0 (pa_cons (pv 2) (pa_cons pe_int (pa_cons (pe_op op_sub (pv 1) pe_int) pa_nil)))))) (pss_one (c_raise T.x_BadSampler O_BadSampler_init hr (by decide) T.g_BadSampler (takes_of rfl rfl rfl rfl) (pa_cons pe_str pa_nil)))
  pss_nil)
  (pss_cons (ps_if (PW.pt (pw_and (pt_cmpR op_notN (pv 3) pe_non (nomark _)) (pw_and1 (pt_not (pt_val (c_fn O_is_integer_from hr (by decide) T.g_is_integer_from pass0 (pa_cons (pv 3) (pa_cons pe_int (pa_cons (pe_op op_sub (pv 1) pe_int) pa_nil))))))))) (pss_one (c_raise T.x_BadSampler O_BadSampler_init hr (by decide) T.g_BadSampler (takes_of rfl rfl rfl rfl) (pa_cons pe_str pa_nil)))
  pss_nil)
  (pss_cons (ps_fld (pv 0) (pv 1) rfl)
  (pss_cons (ps_fld (pv 0) (pv 2) rfl)
  (pss_one (ps_fld (pv 0) (pv 3) rfl))))))), ?_⟩
    rcases h with ⟨w, hi, k⟩ | ⟨n, i, ⟨rfl, n1, n2, rfl, i0, i1, hf⟩, k⟩
    · cases hi with
      | period h => exact ⟨_, rfl, _, _, _, rfl, .inr ⟨h, false, rfl, iteT ⟨_, rfl, fun d hd => k d hd⟩⟩⟩
      | jitter n hx n1 n2 h =>
        subst hx
        refine ⟨_, rfl, _, _, _, rfl, .inl ⟨n, rfl, n1, n2, true, rfl, iteF ?_⟩⟩
        exact ⟨_, rfl, _, rfl, n, 1, rfl, rfl, _, _, _, rfl, .inr ⟨h, false, rfl, iteT ⟨_, rfl, fun d hd => k d hd⟩⟩⟩
      | phase n i hx n1 n2 hj i0 i1 hf h =>
        subst hx hj
        refine ⟨_, rfl, _, _, _, rfl, .inl ⟨n, rfl, n1, n2, true, rfl, iteF ?_⟩⟩
        refine ⟨_, rfl, _, rfl, n, 1, rfl, rfl, _, _, _, rfl, .inl ⟨i, rfl, i0, i1, true, rfl, iteF ?_⟩⟩
        exact ⟨_, rfl, rfl, true, by rw [decide_eq_false hf]; rfl, iteT ⟨_, rfl, _, rfl, n, 1, rfl, rfl, _, _, _, rfl, .inr ⟨h, false, rfl, iteT ⟨_, rfl, fun d hd => k d hd⟩⟩⟩⟩
    · refine ⟨_, rfl, _, _, _, rfl, .inl ⟨n, rfl, n1, n2, true, rfl, iteF ?_⟩⟩
      refine ⟨_, rfl, _, rfl, n, 1, rfl, rfl, _, _, _, rfl, .inl ⟨i, rfl, i0, i1, true, rfl, iteF ?_⟩⟩
      rcases hf with rfl | ⟨q, rfl, q0, q1⟩
      · refine ⟨_, rfl, rfl, false, rfl, iteF ?_⟩
        refine ⟨_, rfl, _, rfl, p, _, dx, [], rfl, hp, T.c_Sampler, T.sP, (by show 0 < 1000; decide), ?_⟩
        refine ⟨_, rfl, _, rfl, p, _, dx, _, rfl, upd_same, T.c_Sampler, T.sJ, (by show 1 < 1000; decide), ?_⟩
        rw [upd_upd]
        refine ⟨_, rfl, _, rfl, p, _, dx, _, rfl, upd_same, T.c_Sampler, T.sF, (by show 2 < 1000; decide), ?_⟩
        rw [upd_upd]
        exact k
      · refine ⟨_, rfl, rfl, true, rfl, iteT ⟨_, rfl, _, rfl, n, 1, rfl, rfl, _, _, _, rfl, .inl ⟨q, rfl, q0, q1, true, rfl, iteF ?_⟩⟩⟩
        refine ⟨_, rfl, _, rfl, p, _, dx, [], rfl, hp, T.c_Sampler, T.sP, (by show 0 < 1000; decide), ?_⟩
        refine ⟨_, rfl, _, rfl, p, _, dx, _, rfl, upd_same, T.c_Sampler, T.sJ, (by show 1 < 1000; decide), ?_⟩
        rw [upd_upd]
        refine ⟨_, rfl, _, rfl, p, _, dx, _, rfl, upd_same, T.c_Sampler, T.sF, (by show 2 < 1000; decide), ?_⟩
        rw [upd_upd]
        exact k
/-- Sampler(period, jitter, phase=f), Sampler(period) -/
theorem O_Sampler2k {fd : FuncData} (F : FunD K "__init__" "Sampler.__init__" (defArgs s_Sampler_init) (defBody s_Sampler_init) (defScope s_Sampler_init) [.int 0] [("phase", .int 0)] (He.fAd K ("Sampler", some "__init__")) fd) (G : FnOk P w K mg base (L2.CX P w) 4 (He.fAd K ("Sampler", some "__init__")) fd ["self", "period", "jitter", "phase"] (spSaI K)) :
    OkK P w K mg base (L2.CX P w) 4 ("Sampler", some "__init__") ["self", "period", "jitter", "phase"] 3 ["phase"] (fun vs zs => vs ++ zs) (spSaI K) := by
  obtain ⟨its, mv, b⟩ := F.kbinds (ps := ["self", "period", "jitter", "phase"]) 3 ["phase"] [] (fun us _ _ ws => us ++ ws) (by decide) (by decide) (fun _ h => nomatch h) (fun r1 _ _ r4 => r1.append r4)
    fun T D doc pm an cdv ct us its mv ws h1 h2 h3 h4 => match us, its, mv, ws, h1, h2, h3, h4 with | [_, _, _], [_], [], [_], _, _, _, _ => ⟨_, rfl, rfl⟩
  exact ⟨fd, _, G, b⟩
theorem O_Sampler1 {fd : FuncData} (F : FunD K "__init__" "Sampler.__init__" (defArgs s_Sampler_init) (defBody s_Sampler_init) (defScope s_Sampler_init) [.int 0] [("phase", .int 0)] (He.fAd K ("Sampler", some "__init__")) fd) (G : FnOk P w K mg base (L2.CX P w) 4 (He.fAd K ("Sampler", some "__init__")) fd ["self", "period", "jitter", "phase"] (spSaI K)) :
    OkK P w K mg base (L2.CX P w) 4 ("Sampler", some "__init__") ["self", "period", "jitter", "phase"] 2 [] (fun vs _ => vs ++ [.int 0, .int 0]) (spSaI K) := by
  obtain ⟨its, mv, b⟩ := F.kbinds (ps := ["self", "period", "jitter", "phase"]) 2 [] [("phase", .int 0)] (fun us its mv _ => us ++ (its ++ mv)) (by decide) (by decide) (fun _ h => h) (fun r1 r2 r3 _ => r1.append (r2.append r3))
    fun T D doc pm an cdv ct us its mv ws h1 h2 h3 h4 => match us, its, mv, ws, h1, h2, h3, h4 with | [_, _], [_], [_], [], _, _, _, _ => ⟨_, rfl, _, _, _, _, _, _, rfl, rfl, rfl⟩
  exact ⟨fd, _, G, b⟩
end
end K36

set_option Elab.async false
set_option linter.all false
set_option pp.deepTerms.threshold 14
set_option pp.maxSteps 2500
set_option maxRecDepth 100000
set_option maxHeartbeats 2000000
namespace K36
open PySem PySem.Spec PyProof.Rows L2 Vf
section
variable {P : Program} {w : World} {K : PySem.W.Frag} {mg : Str → Option Value} {base : Heap}
theorem sc_Program_nexts : FnScope ["self", "name"] ["self"] (defScope s_Program_nexts) := ⟨rfl, rfl, rfl, by decide +kernel, rfl, by decide +kernel, by decide +kernel⟩
-- slots: 0 self, 1 name
/-- the table of nexts, new -/
def spNxT (K : PySem.W.Frag) : Sp := fun vs H Q _ => ∃ (g : Addr) (xs : List PgE) (st : Str) (dx tn dP dN : Addr), vs = [.ref g] ∧ PgA K H g xs st dx tn dP dN ∧ ∀ H' D, Same H H' → H D = none → H' D = some (.dK (kvN xs)) → Q (.ref D) H'
theorem ok_Program_nexts {fd : FuncData} (F : FunD K "nexts" "Program.nexts" (defArgs s_Program_nexts) (defBody s_Program_nexts) (defScope s_Program_nexts) [] [] (gAd K "Program" "nexts") fd) (pr : PropOf K (He.ga K "Program") "nexts" (He.ma K (He.ga K "Program") "nexts") (gAd K "Program" "nexts")) (T : GTxt K mg) : OkG P w K mg base CX0 1 "Program" "nexts" (spNxT K) := by
  refine ⟨⟨fd, F.ok sc_Program_nexts (fun vs H Q E h => ?_) fun cdv A outer s H vs Q E hr h => ?_, F.bindsN fun _ _ _ _ _ _ us hl => match us, hl with | [_], _ => rfl⟩, pr⟩
  · obtain ⟨g, xs, st, dx, tn, dP, dN, rfl, _⟩ := h
    rfl
  · obtain ⟨g, xs, st, dx, tn, dP, dN, rfl, hp, k⟩ := h
    refine ⟨_, PSs.nox (pss_one (ps_ret (pe_dc (own := [("name", 1)]) (g := gName 1) (tt := tYes) (by rfl) sc_Program_nexts.nd (pi_tup (pe_fld (pv 0) rfl)) (blkOk_by (N := ["self", "name"]) (sc := defScope s_Program_nexts) (by decide +kernel)) (fun _ _ _ _ _ => (pg_name (i := 1) sc_Program_nexts.nd rfl (Or.inl rfl))) (fun _ _ _ _ _ => pts_nil) (fun _ _ _ _ _ => (pv 1)) (fun _ _ _ _ _ => (pe_dget (hu_of hr) (pe_fldK (K := K) rfl (pv 0) rfl) (pv 1) (fun _ _ => rfl)))))), ?_⟩
    have hlz : (zsOf xs).length = xs.length := List.length_map ..
    refine ⟨_, rfl, g, _, dx, _, _, rfl, hp.hg, T.c_Program, T.nA, pgf_names .., tn, rfl, ⟨_, SqT.of hp.hn⟩, fun D nD => dc_it walk_tup (fun i H' => Same H H' ∧ H' D = some (.dK ((xs.take i).map fun y => ((Sum.inr y.2.2.z : Key), V.ref y.2.1)))) ⟨same_new nD, by rw [upd_same]; rfl⟩ (fun i H' _ h => SqT.ext (SqT.of hp.hn) h.1) ?_ ?_⟩
    · rintro i x H8 H' hi ⟨sg, hD2⟩ ⟨rfl, hx⟩
      obtain ⟨y, hy, rfl⟩ := zsAt hx
      have hq := hp.ext sg
      refine ⟨rfl, _, rfl, _, rfl, g, _, dx, _, _, rfl, hq.hg, T.c_Program, T.nD, pgf_nexts .., _, rfl, dN, _, rfl, dget_of hq.hN (val_row (f := fun y => V.ref y.2.1) hp.nd hy), _, Sum.inr y.2.2.z, rfl, hD2, ?_, same_app sg (Same.refl _) nD, ?_⟩
      · rw [List.length_map, List.length_take]
        rw [List.length_map, hlz] at hi
        exact Nat.lt_of_le_of_lt (Nat.min_le_left _ _) (Nat.lt_of_lt_of_le hi (Nat.le_trans hp.l6 (by decide)))
      · rw [upd_same, put_row (f := fun y => V.ref y.2.1) hp.nd hy]
    rintro H8 ⟨s78, hD2⟩
    rw [List.length_map, hlz, List.take_length] at hD2
    exact k H8 D s78 nD hD2
def lkV : Option Int → V
  | none => .non
  | some q => .int q
theorem find_row {xs : List PgE} (nd : (zsOf xs).Nodup) {i : Nat} {x : PgE} (h : xs[i]? = some x) : xs.find? (fun y => y.2.2.z == x.2.2.z) = some x := by
  induction xs generalizing i with
  | nil => cases h
  | cons a xs ih =>
    have nd' : a.2.2.z ∉ zsOf xs ∧ (zsOf xs).Nodup := List.nodup_cons.mp nd
    cases i with
    | zero =>
      cases h
      rw [List.find?_cons, beq_self_eq_true]
    | succ i =>
      have hm : x.2.2.z ∈ zsOf xs := List.mem_map_of_mem (List.mem_of_getElem? h)
      rw [List.find?_cons, show (a.2.2.z == x.2.2.z) = false from beq_eq_false_iff_ne.mpr fun e => nd'.1 (e ▸ hm)]
      exact ih nd'.2 h
theorem paired_imp {α β : Type} {R S : α → β → Prop} (h : ∀ a b, R a b → S a b) : ∀ {xs : List α} {ys : List β}, Paired R xs ys → Paired S xs ys
  | _, _, .nil => .nil
  | _, _, .cons r p => .cons (h _ _ r) (paired_imp h p)
theorem paired_snoc {α β : Type} {R : α → β → Prop} {a : α} {b : β} (r : R a b) : ∀ {xs : List α} {ys : List β}, Paired R xs ys → Paired R (xs ++ [a]) (ys ++ [b])
  | _, _, .nil => .cons r .nil
  | _, _, .cons q p => .cons q (paired_snoc r p)
theorem row_of {xs : List PgE} {z : Str} (h : z ∈ zsOf xs) : ∃ (i : Nat) (y : PgE), xs[i]? = some y ∧ y.2.2.z = z := by
  obtain ⟨y, hy, e⟩ := List.mem_map.mp h
  obtain ⟨i, hi⟩ := List.mem_iff_getElem?.mp hy
  exact ⟨i, y, hi, e⟩
theorem paired_at {α β : Type} {R : α → β → Prop} : ∀ {xs : List α} {ys : List β} {i : Nat} {x : α}, Paired R xs ys → xs[i]? = some x → ∃ y, ys[i]? = some y ∧ R x y
  | _, _, i, _, .nil, h => by cases h
  | _, _, 0, _, .cons r _, h => by cases h; exact ⟨_, rfl, r⟩
  | _, _, i + 1, _, .cons _ p, h => paired_at (i := i) p h
theorem paired_at2 {α β : Type} {R : α → β → Prop} : ∀ {xs : List α} {ys : List β} {i : Nat} {y : β}, Paired R xs ys → ys[i]? = some y → ∃ x, xs[i]? = some x ∧ R x y
  | _, _, i, _, .nil, h => by cases h
  | _, _, 0, _, .cons r _, h => by cases h; exact ⟨_, rfl, r⟩
  | _, _, i + 1, _, .cons _ p, h => paired_at2 (i := i) p h
theorem none_of {H H1 : Hp} {a : Addr} (s : Same H H1) (n : H1 a = none) : H a = none := by
  cases e : H a with
  | none => rfl
  | some o =>
    have := s _ _ e
    rw [n] at this
    cases this
end
end K36

set_option Elab.async false
set_option linter.all false
set_option pp.deepTerms.threshold 14
set_option pp.maxSteps 2500
set_option maxRecDepth 100000
set_option maxHeartbeats 2000000
namespace K36
open PySem PySem.Spec PyProof.Rows L2 Vf
section
variable {P : Program} {w : World} {K : PySem.W.Frag} {mg : Str → Option Value} {base : Heap}
def DIG : Str := "0123456789"
structure TTxt (K : PySem.W.Frag) (mg : Str → Option Value) : Prop extends RTxt K mg where
  i_MOST_TEXT : ∃ t, mg "MOST_TEXT" = some (.int 1000 t)
  i_DIGITS : ∃ t, mg "DIGITS" = some (.str DIG t)
  g_write : mg "write" = some (.ref (He.ga K "write"))
  g_read : mg "read" = some (.ref (He.ga K "read"))
  g_lines_of : mg "lines_of" = some (.ref (He.ga K "lines_of"))
  g_check_end : mg "check_end" = some (.ref (He.ga K "check_end"))
  g_with_names : mg "with_names" = some (.ref (He.ga K "with_names"))
  g_program_with : mg "program_with" = some (.ref (He.ga K "program_with"))
  g_start_line : mg "start_line" = some (.ref (He.ga K "start_line"))
  g_place_line : mg "place_line" = some (.ref (He.ga K "place_line"))
  g_sampler_line : mg "sampler_line" = some (.ref (He.ga K "sampler_line"))
  g_digit_of : mg "digit_of" = some (.ref (He.ga K "digit_of"))
  g_start_told : mg "start_told" = some (.ref (He.ga K "start_told"))
  g_place_told : mg "place_told" = some (.ref (He.ga K "place_told"))
  g_sampler_told : mg "sampler_told" = some (.ref (He.ga K "sampler_told"))
  g_BadText : mg "BadText" = some (.ref (He.ga K "BadText"))
  x_BadText : ExI K "BadText" "line"
theorem sc_BadText_init : FnScope ["self", "line"] ["self", "line"] (defScope s_BadText_init) := ⟨rfl, rfl, rfl, by decide +kernel, rfl, by decide +kernel, by decide +kernel⟩
-- slots: 0 self, 1 line
theorem ok_BadText_init {fd : FuncData} (F : FnD K ("BadText", some "__init__") "__init__" "BadText.__init__" s_BadText_init fd) : OkD P w K mg base CX0 1 ("BadText", some "__init__") ["self", "line"] [] (spExI K (He.ga K "BadText") "line") := by
  refine okd F (F.ok sc_BadText_init (fun vs H Q E h => ?_) fun cdv A outer s H vs Q E hr h => ⟨tOst K "line" (tVar 0) (tVar 1), PSs.nox ?_, run_exI h⟩) fun _ _ _ _ _ _ us hl => match us, hl with | [_, _], _ => rfl
  · obtain ⟨a, v, rfl, _⟩ := h
    rfl
  · exact pss_one (ps_ost (pv 0) (pv 1))
/-! ### splitting what was joined -/
def jnC (c : Nat) : List (List Nat) → List Nat
  | [] => []
  | [x] => x
  | x :: y :: r => x ++ c :: jnC c (y :: r)
theorem jnC_of (c : Nat) : ∀ ls : List Str, (Str.join ⟨#[c]⟩ ls).cps.toList = jnC c (ls.map fun s => s.cps.toList)
  | [] => rfl
  | [x] => rfl
  | x :: y :: r => by
    show (x ++ (⟨#[c]⟩ : Str) ++ Str.join ⟨#[c]⟩ (y :: r)).cps.toList = _
    rw [Str.cps_append, Str.cps_append, Array.toList_append, Array.toList_append, jnC_of c (y :: r), List.append_assoc]
    rfl
theorem app_uniq {c : Nat} : ∀ {x y u v : List Nat}, c ∉ x → c ∉ y → x ++ c :: u = y ++ c :: v → x = y ∧ u = v
  | [], [], _, _, _, _, e => ⟨rfl, (List.cons.inj e).2⟩
  | [], b :: y, _, _, _, hy, e => absurd (show c ∈ b :: y by rw [← (List.cons.inj e).1]; exact List.mem_cons_self) hy
  | a :: x, [], _, _, hx, _, e => absurd (show c ∈ a :: x by rw [(List.cons.inj e).1]; exact List.mem_cons_self) hx
  | a :: x, b :: y, _, _, hx, hy, e => by
    obtain ⟨e1, e2⟩ := List.cons.inj e
    obtain ⟨e3, e4⟩ := app_uniq (fun z => hx (List.mem_cons_of_mem _ z)) (fun z => hy (List.mem_cons_of_mem _ z)) e2
    exact ⟨by rw [e1, e3], e4⟩
theorem jnC_uniq {c : Nat} : ∀ {A B : List (List Nat)}, A ≠ [] → B ≠ [] → (∀ x ∈ A, c ∉ x) → (∀ x ∈ B, c ∉ x) → jnC c A = jnC c B → A = B
  | [], _, h, _, _, _, _ => absurd rfl h
  | _ :: _, [], _, h, _, _, _ => absurd rfl h
  | [x], [y], _, _, _, _, e => by rw [show x = y from e]
  | [x], y :: z :: r, _, _, ha, _, e => absurd (show c ∈ x by rw [show x = y ++ c :: jnC c (z :: r) from e]; simp) (ha x List.mem_cons_self)
  | x :: z :: r, [y], _, _, _, hb, e => absurd (show c ∈ y by rw [show y = x ++ c :: jnC c (z :: r) from e.symm]; simp) (hb y List.mem_cons_self)
  | x :: x2 :: r, y :: y2 :: q, _, _, ha, hb, e => by
    obtain ⟨e1, e2⟩ := app_uniq (ha x List.mem_cons_self) (hb y List.mem_cons_self) (show x ++ c :: jnC c (x2 :: r) = y ++ c :: jnC c (y2 :: q) from e)
    rw [e1, jnC_uniq (A := x2 :: r) (B := y2 :: q) (List.cons_ne_nil _ _) (List.cons_ne_nil _ _) (fun z hz => ha z (List.mem_cons_of_mem _ hz)) (fun z hz => hb z (List.mem_cons_of_mem _ hz)) e2]
theorem jnC_out {c d : Nat} (h : c ≠ d) : ∀ {A : List (List Nat)}, (∀ x ∈ A, c ∉ x) → c ∉ jnC d A
  | [], _ => fun z => nomatch z
  | [x], ha => ha x List.mem_cons_self
  | x :: y :: r, ha => by
    show c ∉ x ++ d :: jnC d (y :: r)
    rw [List.mem_append, List.mem_cons]
    rintro (z | z | z)
    · exact ha x List.mem_cons_self z
    · exact h z
    · exact jnC_out h (fun z hz => ha z (List.mem_cons_of_mem _ hz)) z
theorem str_inj {a b : Str} (e : a.cps.toList = b.cps.toList) : a = b := Str.ext' (Array.toList_inj.mp e)
theorem cps_inj : ∀ {xs ys : List Str}, xs.map (fun s => s.cps.toList) = ys.map (fun s => s.cps.toList) → xs = ys
  | [], [], _ => rfl
  | [], _ :: _, h => nomatch h
  | _ :: _, [], h => nomatch h
  | x :: xs, y :: ys, h => by
    obtain ⟨h1, h2⟩ := List.cons.inj h
    rw [str_inj h1, cps_inj h2]
theorem join_cps (c : Nat) (ls : List Str) : (Txt.join ⟨#[c]⟩ ls).cps.toList = jnC c (ls.map fun s => s.cps.toList) := by
  have e0 : Txt.join ⟨#[c]⟩ ls = Str.join ⟨#[c]⟩ ls := PySem.StrLaws.glued_eq_join _ _
  rw [e0, jnC_of]
theorem split_join (c : Nat) {ls : List Str} (h0 : ls ≠ []) (h : ∀ s ∈ ls, c ∉ s.cps.toList) : Txt.split (Txt.join ⟨#[c]⟩ ls) ⟨#[c]⟩ = ls := by
  have e2 := congrArg (fun s : Str => s.cps.toList) (PySem.StrLaws.join_split (Txt.join ⟨#[c]⟩ ls) ⟨#[c]⟩)
  rw [jnC_of, join_cps] at e2
  refine cps_inj (jnC_uniq ?_ (fun z => h0 (List.map_eq_nil_iff.mp z)) ?_ ?_ e2)
  · intro z
    have h1 := PyProof.Rows.split_pos (Txt.join ⟨#[c]⟩ ls) ⟨#[c]⟩
    rw [List.map_eq_nil_iff.mp z] at h1
    exact absurd h1 (by decide)
  · intro x hx
    obtain ⟨s, hs, rfl⟩ := List.mem_map.mp hx
    exact PySem.StrLaws.split_free _ c s hs
  · intro x hx
    obtain ⟨s, hs, rfl⟩ := List.mem_map.mp hx
    exact h s hs
theorem spc : (" " : Str) = ⟨#[32]⟩ := by decide +kernel
theorem nlc : ("\n" : Str) = ⟨#[10]⟩ := by decide +kernel
/-- the signs of a digit, of a letter -/
theorem dg_free : ∀ m : Fin 10, 32 ∉ (Str.ofString (toString (m.val : Int))).cps.toList ∧ 10 ∉ (Str.ofString (toString (m.val : Int))).cps.toList ∧ (Str.ofString (toString (m.val : Int))).length = 1 ∧ Txt.find DIG (Str.ofString (toString (m.val : Int))) = (m.val : Int) ∧ Str.ofString (toString (m.val : Int)) ≠ "-" := by decide +kernel
theorem dgI {n : Int} (h0 : 0 ≤ n) (h9 : n ≤ 9) : 32 ∉ (Str.ofString (toString n)).cps.toList ∧ 10 ∉ (Str.ofString (toString n)).cps.toList ∧ (Str.ofString (toString n)).length = 1 ∧ Txt.find DIG (Str.ofString (toString n)) = n ∧ Str.ofString (toString n) ≠ "-" := by
  obtain ⟨m, rfl⟩ : ∃ m : Nat, n = (m : Int) := ⟨n.toNat, by omega⟩
  exact dg_free ⟨m, by omega⟩
theorem nm_free {z : Str} (h : nmB z = true) : 32 ∉ z.cps.toList ∧ 10 ∉ z.cps.toList ∧ z.length ≤ 8 ∧ z ≠ "-" := by
  unfold nmB at h
  simp only [Bool.and_eq_true, decide_eq_true_eq] at h
  obtain ⟨h1, h2, h3, h4⟩ := h
  have hm : ∀ c ∈ z.cps.toList, c ∈ LET.cps.toList := fun c hc => of_decide_eq_true (List.all_eq_true.mp h4 c hc)
  refine ⟨fun h => absurd (hm _ h) (by decide +kernel), fun h => absurd (hm _ h) (by decide +kernel), h2, fun e => ?_⟩
  rw [e] at hm
  exact absurd (hm 45 (by decide +kernel)) (by decide +kernel)
theorem join_len (sep : Str) (ls : List Str) : (Txt.join sep ls).length ≤ (ls.map (·.length)).sum + ls.length * sep.length := by
  have e0 : Txt.join sep ls = Str.join sep ls := PySem.StrLaws.glued_eq_join _ _
  rw [e0]
  exact PySem.StrLaws.join_length_le sep ls
theorem sum_le {α : Type} {f : α → Nat} {k : Nat} : ∀ {xs : List α}, (∀ x ∈ xs, f x ≤ k) → (xs.map f).sum ≤ k * xs.length
  | [], _ => Nat.zero_le _
  | x :: xs, h => by
    have h1 := h x List.mem_cons_self
    have h2 := sum_le (xs := xs) fun y hy => h y (List.mem_cons_of_mem _ hy)
    rw [List.map_cons, List.sum_cons, List.length_cons, Nat.mul_succ]
    omega
theorem sc_digit_of : FnScope ["word"] ["word"] (defScope s_digit_of) := ⟨rfl, rfl, rfl, by decide +kernel, rfl, by decide +kernel, by decide +kernel⟩
-- slots: 0 word
def spDig : Sp := fun vs H Q _ => ∃ z : Str, vs = [.str z] ∧ z.length ≤ sizeLine ∧ ∀ n : Int, (z.length = 1 → n = Txt.find DIG z) → (z.length ≠ 1 → n = -1) → Q (.int n) H
theorem ok_digit_of {fd : FuncData} (F : FnD K ("digit_of", none) "digit_of" "digit_of" s_digit_of fd) (T : TTxt K mg) : OkF P w K mg base CX0 1 "digit_of" ["word"] spDig := by
  refine okd F (F.ok sc_digit_of (fun vs H Q E h => ?_) fun cdv A outer s H vs Q E hr h => ?_) fun _ _ _ _ _ _ us hl => match us, hl with | [_], _ => rfl
  · obtain ⟨z, rfl, _⟩ := h
    rfl
  · obtain ⟨z, rfl, hz, k⟩ := h
    refine ⟨_, PSs.nox (pss_one (ps_ret (pe_ifExpB (pt_cmpR op_eq (pe_callB call_len_str (by rfl) T.z_len (by decide +kernel) (pa_cons (pv 0) pa_nil)) pe_int (nomark _)) (pe_m1 PySem.F.slot_str_find PySem.F.type_str_find mt_find (c_gstr T.i_DIGITS) (pv 0)) (pe_un un_neg pe_int)))), ?_⟩
    refine ⟨_, rfl, z, rfl, hz, rfl, _, rfl, ?_⟩
    by_cases h1 : z.length = 1
    · refine ⟨.int (Txt.find DIG z), (· = H), fun _ => ?_, fun e => ?_, fun H2 e => ?_⟩
      · exact ⟨⟨_, rfl⟩, _, rfl, DIG, z, rfl, rfl, rfl, rfl⟩
      · rw [h1] at e
        cases e
      · exact e ▸ k _ (fun _ => rfl) (fun e => absurd h1 e)
    · refine ⟨.int (-1), (· = H), fun e => ?_, fun _ => ?_, fun H2 e => ?_⟩
      · exact absurd (V.int.inj (of_decide_eq_true e)) (by omega)
      · exact ⟨1, rfl, rfl, rfl⟩
      · exact e ▸ k _ (fun e => absurd e h1) (fun _ => rfl)
theorem sc_lines_of : FnScope ["text", "most"] ["text", "most"] (defScope s_lines_of) := ⟨rfl, rfl, rfl, by decide +kernel, rfl, by decide +kernel, by decide +kernel⟩
-- slots: 0 text, 1 most
def spLno (K : PySem.W.Frag) : Sp := fun vs H Q _ => ∃ (z : Str) (most : Int), vs = [.str z, .int most] ∧ z.length + 2 ≤ sizeLine ∧ (z.length : Int) ≤ most ∧ ∀ H' p, Same H H' → H p = none → H' p = some (.lst ((Txt.split z "\n").map V.str)) → Q (.ref p) H'
theorem ok_lines_of {fd : FuncData} (F : FnD K ("lines_of", none) "lines_of" "lines_of" s_lines_of fd) (T : TTxt K mg) (O_BadText_init : OkD P w K mg base CX0 1 ("BadText", some "__init__") ["self", "line"] [] (spExI K (He.ga K "BadText") "line")) : OkF P w K mg base (L2.CX P w) 3 "lines_of" ["text", "most"] (spLno K) := by
  refine okd F (F.ok sc_lines_of (fun vs H Q E h => ?_) fun cdv A outer s H vs Q E hr h => ?_) fun _ _ _ _ _ _ us hl => match us, hl with | [_, _], _ => rfl
  · obtain ⟨z, most, rfl, _⟩ := h
    rfl
  · obtain ⟨z, most, rfl, hz, hm, k⟩ := h
    refine ⟨_, (pss_cons (ps_if (PW.pt (pw_or (pt_not (pt_val (pe_callB (id := "isinstance") call_isi (by rfl) T.z_isinstance (by decide +kernel) (pa_cons (pv 0) (pa_cons (pe_ty (n := "str") T.z_str (by decide +kernel)) pa_nil))))) (pw_or1 (pt_cmpR op_gt (pe_callB call_len_str (by rfl) T.z_len (by decide +kernel) (pa_cons (pv 0) pa_nil)) (pv 1) (nomark _))))) (pss_one (c_raise T.x_BadText O_BadText_init hr (by decide) T.g_BadText (takes_of rfl rfl rfl rfl) (pa_cons pe_int pa_nil)))
  pss_nil)
  (pss_one (ps_ret (pe_m1 PySem.F.slot_str_split PySem.F.type_str_split mt_split (pv 0) pe_str)))), ?_⟩
    have d : decide (most < (z.length : Int)) = false := decide_eq_false (by omega)
    refine ⟨_, rfl, .str z, .ty "str", .type "str", .type "str", true, rfl, .ty _, .base (.str _), kit_ty (by decide +kernel), true, rfl, iteF ⟨_, rfl, z, rfl, by omega, _, rfl, _, _, rfl, rfl, _, rfl, ?_⟩⟩
    rw [d]
    exact iteF ⟨_, rfl, ⟨_, rfl⟩, z, "\n", rfl, rfl, by decide, hz, fun p np => k _ p (same_new np) np upd_same⟩
theorem sc_check_end : FnScope ["lines", "number"] ["lines", "number"] (defScope s_check_end) := ⟨rfl, rfl, rfl, by decide +kernel, rfl, by decide +kernel, by decide +kernel⟩
-- slots: 0 lines, 1 number
def spCke : Sp := fun vs H Q _ => ∃ (a : Addr) (xs : List V) (n : Int), vs = [.ref a, .int n] ∧ H a = some (.lst xs) ∧ (xs.length : Int) ≤ n ∧ Q .non H
theorem ok_check_end {fd : FuncData} (F : FnD K ("check_end", none) "check_end" "check_end" s_check_end fd) (T : TTxt K mg) (O_BadText_init : OkD P w K mg base CX0 1 ("BadText", some "__init__") ["self", "line"] [] (spExI K (He.ga K "BadText") "line")) : OkF P w K mg base (L2.CX P w) 3 "check_end" ["lines", "number"] spCke := by
  refine okd F (F.ok sc_check_end (fun vs H Q E h => ?_) fun cdv A outer s H vs Q E hr h => ?_) fun _ _ _ _ _ _ us hl => match us, hl with | [_, _], _ => rfl
  · obtain ⟨a, xs, n, rfl, _⟩ := h
    rfl
  · obtain ⟨a, xs, n, rfl, ha, hn, k⟩ := h
    refine ⟨_, (pss_one (ps_if (pt_cmpR op_lt (pv 1) (pe_callB (id := "len") call_len_seq (by rfl) T.z_len (by decide +kernel) (pa_cons (pv 0) pa_nil)) (nomark _)) (pss_one (c_raise T.x_BadText O_BadText_init hr (by decide) T.g_BadText (takes_of rfl rfl rfl rfl) (pa_cons (pe_op op_add (pv 1) pe_int) pa_nil)))
  pss_nil)), ?_⟩
    have d : decide (n < (xs.length : Int)) = false := decide_eq_false (by omega)
    refine ⟨_, rfl, _, rfl, a, xs, rfl, .inl (SqL.of ha), _, _, rfl, rfl, _, rfl, ?_⟩
    rw [d]
    exact iteF k
/-! ### the lines of a program's text -/
def dgS (n : Int) : Str := Str.ofString (toString n)
def kdS (b : Bool) : Str := if b then "open" else "closed"
def nsW : List Str → List Str
  | [] => ["end"]
  | z :: zs => "to" :: z :: zs
def plW (r : Rw) : List Str := [("" : Str), "", r.z, kdS r.b, dgS r.l, dgS r.m] ++ nsW r.ns
def plL (r : Rw) : Str := Txt.join " " (plW r)
def phS : V → Str
  | .int n => dgS n
  | _ => "any"
def smW (n i : Int) (f : V) : List Str := ["sampler", "period", dgS n, "jitter", dgS i, "phase", phS f]
def smL (n i : Int) (f : V) : Str := Txt.join " " (smW n i f)
def stL (z : Str) : Str := ("program start " : Str) ++ z
def pgT (z : Str) (rs : List Rw) (n i : Int) (f : V) : Str := Txt.join "\n" (stL z :: (rs.map plL ++ [smL n i f]))
/-- a row that a text tells -/
def RwOk (r : Rw) : Prop := nmB r.z = true ∧ 1 ≤ r.l ∧ r.l ≤ r.m ∧ r.m ≤ 6 ∧ (∀ v ∈ r.ns, nmB v = true) ∧ r.ns.Nodup ∧ r.ns.length ≤ 6
theorem jnC_app {c : Nat} {B : List (List Nat)} (hB : B ≠ []) : ∀ {A : List (List Nat)}, A ≠ [] → jnC c (A ++ B) = jnC c A ++ c :: jnC c B
  | [], h => absurd rfl h
  | [x], _ => by
    cases B with
    | nil => exact absurd rfl hB
    | cons b r => rfl
  | x :: y :: r, _ => by
    show x ++ c :: jnC c (y :: r ++ B) = (x ++ c :: jnC c (y :: r)) ++ c :: jnC c B
    rw [jnC_app hB (List.cons_ne_nil _ _), List.append_assoc]
    rfl
theorem nsW_ne (ns : List Str) : nsW ns ≠ [] := by cases ns <;> exact List.cons_ne_nil _ _
theorem str_e : ("" : Str).cps.toList = [] := by decide +kernel
theorem str_s : (" " : Str).cps.toList = [32] := by decide +kernel
theorem str_ss : ("  " : Str).cps.toList = [32, 32] := by decide +kernel
theorem plL_eq (r : Rw) : plL r = ("  " : Str) ++ r.z ++ " " ++ kdS r.b ++ " " ++ dgS r.l ++ " " ++ dgS r.m ++ " " ++ Txt.join " " (nsW r.ns) := by
  apply str_inj
  unfold plL plW
  rw [spc, join_cps, List.map_append, jnC_app (by simpa using nsW_ne r.ns) (by simp), ← spc]
  simp only [Str.cps_append, Array.toList_append, str_s, str_ss]
  rw [spc, join_cps]
  simp [jnC, str_e]
theorem to_join {z : Str} {zs : List Str} : Txt.join " " (nsW (z :: zs)) = ("to " : Str) ++ Txt.join " " (z :: zs) := by
  apply str_inj
  rw [Str.cps_append, Array.toList_append, spc, join_cps, join_cps]
  have e : ("to " : Str).cps.toList = ("to" : Str).cps.toList ++ [32] := by decide +kernel
  rw [e]
  simp [nsW, jnC]
theorem smL_eq (n i : Int) (f : V) : smL n i f = ("sampler period " : Str) ++ dgS n ++ " jitter " ++ dgS i ++ " phase " ++ phS f := by
  apply str_inj
  unfold smL smW
  rw [spc, join_cps]
  simp only [Str.cps_append, Array.toList_append]
  have e1 : ("sampler period " : Str).cps.toList = ("sampler" : Str).cps.toList ++ 32 :: (("period" : Str).cps.toList ++ [32]) := by decide +kernel
  have e2 : (" jitter " : Str).cps.toList = 32 :: (("jitter" : Str).cps.toList ++ [32]) := by decide +kernel
  have e3 : (" phase " : Str).cps.toList = 32 :: (("phase" : Str).cps.toList ++ [32]) := by decide +kernel
  rw [e1, e2, e3]
  simp [jnC]
theorem stL_eq (z : Str) : stL z = Txt.join " " ["program", "start", z] := by
  apply str_inj
  unfold stL
  rw [spc, join_cps]
  simp only [Str.cps_append, Array.toList_append]
  have e1 : ("program start " : Str).cps.toList = ("program" : Str).cps.toList ++ 32 :: (("start" : Str).cps.toList ++ [32]) := by decide +kernel
  rw [e1]
  simp [jnC]
theorem kd_free (b : Bool) : 32 ∉ (kdS b).cps.toList ∧ 10 ∉ (kdS b).cps.toList ∧ (kdS b).length ≤ 6 := by cases b <;> decide +kernel
/-- no space, no new line, short -/
def okW1 (w : Str) : Prop := 32 ∉ w.cps.toList ∧ 10 ∉ w.cps.toList ∧ w.length ≤ 8
theorem okW1_nm {z : Str} (h : nmB z = true) : okW1 z := ⟨(nm_free h).1, (nm_free h).2.1, (nm_free h).2.2.1⟩
theorem okW1_dg {n : Int} (h0 : 0 ≤ n) (h9 : n ≤ 9) : okW1 (dgS n) := ⟨(dgI h0 h9).1, (dgI h0 h9).2.1, by show (Str.ofString (toString n)).length ≤ 8; rw [(dgI h0 h9).2.2.1]; decide⟩
theorem okW1_c {w : Str} (h : decide (32 ∉ w.cps.toList ∧ 10 ∉ w.cps.toList ∧ w.length ≤ 8) = true) : okW1 w := (of_decide_eq_true h : 32 ∉ w.cps.toList ∧ 10 ∉ w.cps.toList ∧ w.length ≤ 8)
theorem plW_ok {r : Rw} (h : RwOk r) : ∀ w ∈ plW r, okW1 w := by
  obtain ⟨h1, h2, h3, h4, h5, _⟩ := h
  intro w hw
  rcases List.mem_append.mp hw with hw | hw
  · have hw : w = "" ∨ w = "" ∨ w = r.z ∨ w = kdS r.b ∨ w = dgS r.l ∨ w = dgS r.m := by simpa using hw
    rcases hw with rfl | rfl | rfl | rfl | rfl | rfl
    · exact okW1_c (by decide +kernel)
    · exact okW1_c (by decide +kernel)
    · exact okW1_nm h1
    · exact ⟨(kd_free _).1, (kd_free _).2.1, Nat.le_trans (kd_free _).2.2 (by decide)⟩
    · exact okW1_dg (by omega) (by omega)
    · exact okW1_dg (by omega) (by omega)
  · cases hn : r.ns with
    | nil =>
      rw [hn] at hw
      have hw : w = "end" := by simpa [nsW] using hw
      rw [hw]
      exact okW1_c (by decide +kernel)
    | cons z zs =>
      rw [hn] at hw h5
      rcases List.mem_cons.mp hw with rfl | hw
      · exact okW1_c (by decide +kernel)
      · exact okW1_nm (h5 w hw)
theorem phS_ok {f : V} {n : Int} (h : PhOk f n) (hn : n ≤ 8) : okW1 (phS f) := by
  rcases h with rfl | ⟨q, rfl, h0, h1⟩
  · exact okW1_c (by decide +kernel)
  · exact okW1_dg h0 (by omega)
theorem smW_ok {n i : Int} {f : V} (h1 : 1 ≤ n) (h2 : n ≤ 8) (h3 : 0 ≤ i) (h4 : i ≤ n - 1) (h5 : PhOk f n) : ∀ w ∈ smW n i f, okW1 w := by
  intro w hw
  have hw : w = "sampler" ∨ w = "period" ∨ w = dgS n ∨ w = "jitter" ∨ w = dgS i ∨ w = "phase" ∨ w = phS f := by simpa [smW] using hw
  rcases hw with rfl | rfl | rfl | rfl | rfl | rfl | rfl
  · exact okW1_c (by decide +kernel)
  · exact okW1_c (by decide +kernel)
  · exact okW1_dg (by omega) (by omega)
  · exact okW1_c (by decide +kernel)
  · exact okW1_dg (by omega) (by omega)
  · exact okW1_c (by decide +kernel)
  · exact phS_ok h5 h2
theorem okW_split {ws : List Str} (h0 : ws ≠ []) (h : ∀ w ∈ ws, okW1 w) : Txt.split (Txt.join " " ws) " " = ws := by
  rw [spc]
  exact split_join 32 h0 fun w hw => (h w hw).1
theorem okW_out {ws : List Str} (h : ∀ w ∈ ws, okW1 w) : 10 ∉ (Txt.join " " ws).cps.toList := by
  rw [spc, join_cps]
  refine jnC_out (by decide) fun x hx => ?_
  obtain ⟨w, hw, rfl⟩ := List.mem_map.mp hx
  exact (h w hw).2.1
theorem okW_len {ws : List Str} (h : ∀ w ∈ ws, okW1 w) : (Txt.join " " ws).length ≤ 9 * ws.length := by
  have h1 := join_len " " ws
  have h2 := sum_le (f := fun w : Str => w.length) (k := 8) (xs := ws) fun w hw => (h w hw).2.2
  have e1 : (" " : Str).length = 1 := by decide +kernel
  rw [e1] at h1
  omega
theorem nsW_len (ns : List Str) : (nsW ns).length ≤ ns.length + 1 := by cases ns <;> simp [nsW]
theorem plL_len {r : Rw} (h : RwOk r) : (plL r).length ≤ 117 := by
  have h1 := okW_len (plW_ok h)
  have h2 := nsW_len r.ns
  have h3 := h.2.2.2.2.2.2
  have e : (plW r).length = 6 + (nsW r.ns).length := by simp [plW]; omega
  unfold plL
  omega
theorem smL_len {n i : Int} {f : V} (h1 : 1 ≤ n) (h2 : n ≤ 8) (h3 : 0 ≤ i) (h4 : i ≤ n - 1) (h5 : PhOk f n) : (smL n i f).length ≤ 63 := okW_len (smW_ok h1 h2 h3 h4 h5)
theorem stW_ok {z : Str} (h : nmB z = true) : ∀ w ∈ [("program" : Str), "start", z], okW1 w := by
  intro w hw
  have hw : w = "program" ∨ w = "start" ∨ w = z := by simpa using hw
  rcases hw with rfl | rfl | rfl
  · exact okW1_c (by decide +kernel)
  · exact okW1_c (by decide +kernel)
  · exact okW1_nm h
theorem pgT_split {z : Str} {rs : List Rw} {n i : Int} {f : V} (hz : nmB z = true) (hr : ∀ r ∈ rs, RwOk r) (h1 : 1 ≤ n) (h2 : n ≤ 8) (h3 : 0 ≤ i) (h4 : i ≤ n - 1) (h5 : PhOk f n) : Txt.split (pgT z rs n i f) "\n" = stL z :: (rs.map plL ++ [smL n i f]) := by
  unfold pgT
  rw [nlc]
  refine split_join 10 (List.cons_ne_nil _ _) fun w hw => ?_
  rcases List.mem_cons.mp hw with rfl | hw
  · rw [stL_eq]
    exact okW_out (stW_ok hz)
  · rcases List.mem_append.mp hw with hw | hw
    · obtain ⟨r, h, rfl⟩ := List.mem_map.mp hw
      exact okW_out (plW_ok (hr r h))
    · rw [List.mem_singleton.mp hw]
      exact okW_out (smW_ok h1 h2 h3 h4 h5)
theorem pgT_len {z : Str} {rs : List Rw} {n i : Int} {f : V} (hz : nmB z = true) (hr : ∀ r ∈ rs, RwOk r) (l6 : rs.length ≤ 6) (h1 : 1 ≤ n) (h2 : n ≤ 8) (h3 : 0 ≤ i) (h4 : i ≤ n - 1) (h5 : PhOk f n) :
    ((stL z :: (rs.map plL ++ [smL n i f])).map (·.length)).sum ≤ 800 ∧ (pgT z rs n i f).length ≤ 1000 := by
  have a1 : (stL z).length ≤ 27 := by
    rw [stL_eq]
    exact okW_len (stW_ok hz)
  have a2 := smL_len h1 h2 h3 h4 h5
  have a3 := sum_le (f := fun r => (plL r).length) (k := 117) (xs := rs) fun r h => plL_len (hr r h)
  have e : (rs.map ((fun x : Str => x.length) ∘ plL)).sum = (rs.map fun r => (plL r).length).sum := rfl
  have b1 : ((stL z :: (rs.map plL ++ [smL n i f])).map (·.length)).sum ≤ 800 := by
    simp only [List.map_cons, List.map_append, List.map_map, List.map_nil, List.sum_cons, List.sum_append, List.sum_nil]
    omega
  refine ⟨b1, ?_⟩
  have b2 := join_len "\n" (stL z :: (rs.map plL ++ [smL n i f]))
  have e2 : ("\n" : Str).length = 1 := by decide +kernel
  rw [e2, List.length_cons, List.length_append, List.length_map, List.length_singleton] at b2
  unfold pgT
  omega
end
end K36

set_option Elab.async false
set_option linter.all false
set_option pp.deepTerms.threshold 14
set_option pp.maxSteps 2500
set_option maxRecDepth 100000
set_option maxHeartbeats 2000000
namespace K36
open PySem PySem.Spec PyProof.Rows L2 Vf
section
variable {P : Program} {w : World} {K : PySem.W.Frag} {mg : Str → Option Value} {base : Heap}
theorem sc_start_line : FnScope ["start"] ["start"] (defScope s_start_line) := ⟨rfl, rfl, rfl, by decide +kernel, rfl, by decide +kernel, by decide +kernel⟩
-- slots: 0 start
def spSln : Sp := fun vs H Q _ => ∃ z : Str, vs = [.str z] ∧ z.length ≤ 8 ∧ Q (.str (stL z)) H
theorem ok_start_line {fd : FuncData} (F : FnD K ("start_line", none) "start_line" "start_line" s_start_line fd) (T : TTxt K mg) : OkF P w K mg base CX0 1 "start_line" ["start"] spSln := by
  refine okd F (F.ok sc_start_line (fun vs H Q E h => ?_) fun cdv A outer s H vs Q E hr h => ?_) fun _ _ _ _ _ _ us hl => match us, hl with | [_], _ => rfl
  · obtain ⟨z, rfl, _⟩ := h
    rfl
  · obtain ⟨z, rfl, hz, k⟩ := h
    refine ⟨_, PSs.nox (pss_one (ps_ret (pe_joined (PJ.cons pe_str (PJ.cons (pe_fmt (pv 0)) PJ.nil))))), ?_⟩
    have e1 : ("program start " : Str).length = 14 := by decide +kernel
    have big : 1000 ≤ sizeLine := by decide
    refine ⟨_, rfl, ?_, _, rfl, .inl ⟨z, rfl, by omega, _, rfl, ?_, k⟩⟩
    · decide +kernel
    · rw [Str.length_append]
      exact Nat.le_trans (Nat.add_le_add_left hz _) (by decide +kernel)
theorem sc_place_line : FnScope ["place", "ways", "kind", "end"] ["place", "ways"] (defScope s_place_line) := ⟨rfl, rfl, rfl, by decide +kernel, rfl, by decide +kernel, by decide +kernel⟩
-- slots: 0 place, 1 ways, 2 kind, 3 end
def spPln (K : PySem.W.Frag) : Sp := fun vs H Q _ => ∃ (p t : Addr) (r : Rw), vs = [.ref p, .ref t] ∧ PlA (CP K) H p r.z r.l r.m r.b ∧ H t = some (.tup (r.ns.map V.str)) ∧ RwOk r ∧ ∀ H', Same H H' → Q (.str (plL r)) H'
theorem ok_place_line {fd : FuncData} (F : FnD K ("place_line", none) "place_line" "place_line" s_place_line fd) (T : TTxt K mg) : OkF P w K mg base CX0 1 "place_line" ["place", "ways"] (spPln K) := by
  refine okd F (F.ok sc_place_line (fun vs H Q E h => ?_) fun cdv A outer s H vs Q E hr h => ?_) fun _ _ _ _ _ _ us hl => match us, hl with | [_, _], _ => rfl
  · obtain ⟨p, t, r, rfl, _⟩ := h
    rfl
  · obtain ⟨p, t, r, rfl, ⟨dx, hp⟩, ht, hr, k⟩ := h
    refine ⟨_, PSs.nox (pss_cons (ps_set (i := 2) sc_place_line.nd rfl (Or.inl rfl) (pe_ifExpB (pt_val (pe_fld (pv 0) rfl)) pe_str pe_str))
  (pss_cons (ps_set (i := 3) sc_place_line.nd rfl (Or.inl rfl) (pe_ifExpB (pt_cmpR op_eq (pe_callB (id := "len") call_len_seq (by rfl) T.z_len (by decide +kernel) (pa_cons (pv 1) pa_nil)) pe_int (nomark _)) pe_str (pe_m1 PySem.F.slot_str_join PySem.F.type_str_join mt_join pe_str (pe_op op_cat (pe_lst (pa_cons pe_str pa_nil)) (pe_callTy call_list_of (by rfl) T.z_list (by decide +kernel) (pa_cons (pv 1) pa_nil))))))
  (pss_one (ps_ret (pe_joined (PJ.cons pe_str (PJ.cons (pe_fmt (pe_fld (pv 0) rfl)) (PJ.cons pe_str (PJ.cons (pe_fmt (pv 2)) (PJ.cons pe_str (PJ.cons (pe_fmt (pe_fld (pv 0) rfl)) (PJ.cons pe_str (PJ.cons (pe_fmt (pe_fld (pv 0) rfl)) (PJ.cons pe_str (PJ.cons (pe_fmt (pv 3)) PJ.nil))))))))))))))), ?_⟩
    have hz8 := (nm_free hr.1).2.2.1
    have big : 1000 ≤ sizeLine := by decide
    have hk := (kd_free r.b).2.2
    have hdl : (dgS r.l).length = 1 := (dgI (n := r.l) (by have := hr.2.1; omega) (by have := hr.2.2.1; have := hr.2.2.2.1; omega)).2.2.1
    have hdm : (dgS r.m).length = 1 := (dgI (n := r.m) (by have := hr.2.1; have := hr.2.2.1; omega) (by have := hr.2.2.2.1; omega)).2.2.1
    have e2 : ("  " : Str).length = 2 := by decide +kernel
    have e1 : (" " : Str).length = 1 := by decide +kernel
    have e0 : Str.empty.length = 0 := rfl
    have nv : ∀ w ∈ nsW r.ns, okW1 w := fun w hw => plW_ok hr w (List.mem_append_right _ hw)
    have hj := okW_len nv
    have hj2 := nsW_len r.ns
    have hn6 := hr.2.2.2.2.2.2
    rw [plL_eq] at k
    refine ⟨_, rfl, p, _, dx, _, _, rfl, hp, T.c_Place, T.nT, plf_let .., r.b, rfl, .str (kdS r.b), (· = H), fun e => ⟨by rw [e]; rfl, rfl⟩, fun e => ⟨by rw [e]; rfl, rfl⟩, fun H1 e1' => ?_⟩
    subst e1'
    refine ⟨_, rfl, t, _, rfl, .inr (SqT.of ht), rfl, _, rfl, .str (Txt.join " " (nsW r.ns)), fun H' => Same H1 H', fun e => ?_, fun e => ?_, fun H2 s2 => ?_⟩
    · have e := V.int.inj (of_decide_eq_true e)
      rw [List.length_map] at e
      have e : r.ns = [] := List.length_eq_zero_iff.mp (by omega)
      rw [e]
      exact ⟨rfl, Same.refl _⟩
    · have hne : nsW r.ns = ("to" : Str) :: r.ns := by
        cases hn : r.ns with
        | nil =>
          rw [hn] at e
          exact absurd rfl (of_decide_eq_false e)
        | cons z zs => rfl
      rw [hne] at hj hj2 ⊢
      refine ⟨⟨_, rfl⟩, (by show 1 ≤ sizeLine; decide), fun L nL => ?_⟩
      have s1 := same_new (o := .lst [.str "to"]) nL
      have hL := upd_same (H := H1) (a := L) (o := .lst [.str "to"])
      generalize upd H1 L (.lst [.str "to"]) = H2 at s1 hL ⊢
      refine ⟨_, rfl, t, _, rfl, .inr (SqT.of (s1 _ _ ht)), fun l nl => ?_⟩
      have s2 := same_new (o := .lst (r.ns.map V.str)) nl
      refine ⟨L, l, _, _, rfl, rfl, s2 _ _ hL, upd_same, ?_, fun J nJ => ⟨" ", J, ("to" : Str) :: r.ns, rfl, rfl, .inl (SqL.of upd_same), ?_, rfl, s1.trans (s2.trans (same_new nJ))⟩⟩
      · rw [List.length_map]
        exact Nat.le_trans (show 1 + r.ns.length ≤ 1000 by omega) big
      · have h1 := sum_le (f := fun w : Str => w.length) (k := 8) (xs := ("to" : Str) :: r.ns) fun w hw => (nv w (by rw [hne]; exact hw)).2.2
        rw [e1]
        rw [List.length_cons] at h1 ⊢
        omega
    · have hp2 := s2 _ _ hp
      generalize Txt.join " " (nsW r.ns) = en at k hj
      refine ⟨_, rfl, ?_, _, rfl, p, _, dx, _, _, rfl, hp2, T.c_Place, T.nN, plf_name .., .inl ⟨_, rfl, by omega, _, rfl, ?_, _, rfl, ?_, _, rfl, .inl ⟨_, rfl, by omega, _, rfl, ?_, _, rfl, ?_, _, rfl, p, _, dx, _, _, rfl, hp2, T.c_Place, T.nL, plf_least .., .inr ⟨_, rfl, ?_, _, rfl, ?_, _, rfl, ?_, _, rfl, p, _, dx, _, _, rfl, hp2, T.c_Place, T.nM, plf_most .., .inr ⟨_, rfl, ?_, _, rfl, ?_, _, rfl, ?_, _, rfl, .inl ⟨_, rfl, by omega, _, rfl, ?_, k _ s2⟩⟩⟩⟩⟩⟩
      all_goals
        first
        | exact Nat.lt_of_le_of_lt (Nat.log2_le_self _) (by have := hr.2.1; have := hr.2.2.1; have := hr.2.2.2.1; omega)
        | (simp only [Str.length_append, e0, e1, e2, show (Str.ofString (toString r.l)).length = 1 from hdl, show (Str.ofString (toString r.m)).length = 1 from hdm]; omega)
theorem sc_sampler_line : FnScope ["sampler", "phase"] ["sampler"] (defScope s_sampler_line) := ⟨rfl, rfl, rfl, by decide +kernel, rfl, by decide +kernel, by decide +kernel⟩
-- slots: 0 sampler, 1 phase
def spSml (K : PySem.W.Frag) : Sp := fun vs H Q _ => ∃ (p : Addr) (n i : Int) (f : V), vs = [.ref p] ∧ SaA (CS K) H p n i f ∧ 1 ≤ n ∧ n ≤ 8 ∧ 0 ≤ i ∧ i ≤ n - 1 ∧ PhOk f n ∧ Q (.str (smL n i f)) H
theorem ok_sampler_line {fd : FuncData} (F : FnD K ("sampler_line", none) "sampler_line" "sampler_line" s_sampler_line fd) (T : TTxt K mg) : OkF P w K mg base CX0 1 "sampler_line" ["sampler"] (spSml K) := by
  refine okd F (F.ok sc_sampler_line (fun vs H Q E h => ?_) fun cdv A outer s H vs Q E hr h => ?_) fun _ _ _ _ _ _ us hl => match us, hl with | [_], _ => rfl
  · obtain ⟨p, n, i, f, rfl, _⟩ := h
    rfl
  · obtain ⟨p, n, i, f, rfl, ⟨dx, hp⟩, n1, n8, i0, i1, hf, k⟩ := h
    refine ⟨_, PSs.nox (pss_cons (ps_set (i := 1) sc_sampler_line.nd rfl (Or.inl rfl) (pe_ifExpB (pt_cmpR op_isN (pe_fld (pv 0) rfl) pe_non (nomark _)) pe_str (pe_fld (pv 0) rfl)))
  (pss_one (ps_ret (pe_joined (PJ.cons pe_str (PJ.cons (pe_fmt (pe_fld (pv 0) rfl)) (PJ.cons pe_str (PJ.cons (pe_fmt (pe_fld (pv 0) rfl)) (PJ.cons pe_str (PJ.cons (pe_fmt (pv 1)) PJ.nil)))))))))), ?_⟩
    have e1 : ("sampler period " : Str).length = 15 := by decide +kernel
    have e2 : (" jitter " : Str).length = 8 := by decide +kernel
    have e3 : (" phase " : Str).length = 7 := by decide +kernel
    have e0 : Str.empty.length = 0 := rfl
    have big : 1000 ≤ sizeLine := by decide
    have hdn : (Str.ofString (toString n)).length = 1 := (dgI (n := n) (by omega) (by omega)).2.2.1
    have hdi : (Str.ofString (toString i)).length = 1 := (dgI (n := i) i0 (by omega)).2.2.1
    have hph := (phS_ok hf n8).2.2
    rw [smL_eq] at k
    obtain ⟨v, hv, hfv⟩ : ∃ v : V, v = (if f = .non then .str "any" else f) ∧ ((v = .str (phS f)) ∨ (∃ q : Int, v = .int q ∧ 0 ≤ q ∧ q ≤ 9 ∧ phS f = Str.ofString (toString q))) := by
      rcases hf with rfl | ⟨q, rfl, q0, q1⟩
      · exact ⟨_, rfl, .inl rfl⟩
      · exact ⟨_, rfl, .inr ⟨q, rfl, q0, by omega, rfl⟩⟩
    refine ⟨_, rfl, p, _, dx, _, _, rfl, hp, T.c_Sampler, T.sF, saf_phase .., rfl, _, rfl, v, (· = H), fun e => ?_, fun e => ?_, fun H2 e => ?_⟩
    · exact ⟨by rw [hv, if_pos (of_decide_eq_true e)], rfl⟩
    · exact ⟨_, rfl, p, _, dx, _, _, rfl, hp, T.c_Sampler, T.sF, saf_phase .., by rw [hv, if_neg (of_decide_eq_false e)], rfl⟩
    subst e
    refine ⟨_, rfl, ?_, _, rfl, p, _, dx, _, _, rfl, hp, T.c_Sampler, T.sP, saf_period .., .inr ⟨_, rfl, ?_, _, rfl, ?_, _, rfl, ?_, _, rfl, p, _, dx, _, _, rfl, hp, T.c_Sampler, T.sJ, saf_jitter .., .inr ⟨_, rfl, ?_, _, rfl, ?_, _, rfl, ?_, _, rfl, ?_⟩⟩⟩
    rotate_right
    · rcases hfv with h | ⟨q, h, q0, q9, eq⟩
      · refine .inl ⟨_, h, by omega, _, rfl, ?_, k⟩
        simp only [Str.length_append, e0, e1, e2, e3, hdn, hdi]
        omega
      · rw [eq] at k
        refine .inr ⟨q, h, Nat.lt_of_le_of_lt (Nat.log2_le_self _) (by omega), _, rfl, ?_, k⟩
        simp only [Str.length_append, e0, e1, e2, e3, hdn, hdi, (dgI q0 q9).2.2.1]
        omega
    all_goals
      first
      | exact Nat.lt_of_le_of_lt (Nat.log2_le_self _) (by omega)
      | (simp only [Str.length_append, e0, e1, e2, e3, hdn, hdi]; omega)
end
end K36

set_option Elab.async false
set_option linter.all false
set_option pp.deepTerms.threshold 14
set_option pp.maxSteps 2500
set_option maxRecDepth 100000
set_option maxHeartbeats 2000000
namespace K36
open PySem PySem.Spec PyProof.Rows L2 Vf
section
variable {P : Program} {w : World} {K : PySem.W.Frag} {mg : Str → Option Value} {base : Heap}
theorem cutV_frI {xs : List V} {r : Int} (h0 : 0 ≤ r) (h : r.toNat ≤ xs.length) : cutV xs (some r) none = xs.drop r.toNat := by
  obtain ⟨i, rfl⟩ : ∃ i : Nat, r = (i : Int) := ⟨r.toNat, by omega⟩
  unfold cutV
  have e1 : HT.sIx xs.length 0 (some (i : Int)) = i := by
    rw [HT.sIx_nat]
    omega
  have e2 : HT.sIx xs.length xs.length none = xs.length := rfl
  rw [e1, e2]
  exact List.take_of_length_le (by rw [List.length_drop]; exact Nat.le_refl _)
theorem atI3_m1 {α : Type} {a b c : α} : atI [a, b, c] (-1) = some c := rfl
theorem sc_start_told : FnScope ["line", "start"] ["line"] (defScope s_start_told) := ⟨rfl, rfl, rfl, by decide +kernel, rfl, by decide +kernel, by decide +kernel⟩
-- slots: 0 line, 1 start
def spSto : Sp := fun vs H Q _ => ∃ z : Str, vs = [.str (stL z)] ∧ nmB z = true ∧ ∀ H', Same H H' → Q (.str z) H'
theorem ok_start_told {fd : FuncData} (F : FnD K ("start_told", none) "start_told" "start_told" s_start_told fd) (T : TTxt K mg) (O_is_name : OkF P w K mg base CX0 1 "is_name" ["x"] spName) (O_start_line : OkF P w K mg base CX0 1 "start_line" ["start"] spSln) : OkF P w K mg base CX0 2 "start_told" ["line"] spSto := by
  refine okd F (F.ok sc_start_told (fun vs H Q E h => ?_) fun cdv A outer s H vs Q E hr h => ?_) fun _ _ _ _ _ _ us hl => match us, hl with | [_], _ => rfl
  · obtain ⟨z, rfl, _⟩ := h
    rfl
  · obtain ⟨z, rfl, hz, k⟩ := h
    refine ⟨_, PSs.nox (pss_cons (ps_set (i := 1) sc_start_told.nd rfl (Or.inl rfl) (pe_ix ix_list (pe_m1 PySem.F.slot_str_split PySem.F.type_str_split mt_split (pv 0) pe_str) (pe_un un_neg pe_int) (fun _ _ => rfl)))
  (pss_one (ps_ret (pe_ifExpB (PW.pt (pw_andB (pt_val (c_fn O_is_name hr (by decide) T.g_is_name pass0 (pa_cons (pv 1) pa_nil))) (pw_and1 (pt_cmpR op_eq (c_fn O_start_line hr (by decide) T.g_start_line pass0 (pa_cons (pv 1) pa_nil)) (pv 0) (nomark _))))) (pv 1) pe_non)))), ?_⟩
    have hsp : Txt.split (stL z) " " = [("program" : Str), "start", z] := by
      rw [stL_eq]
      exact okW_split (List.cons_ne_nil _ _) (stW_ok hz)
    have hl : (stL z).length ≤ 27 := by
      rw [stL_eq]
      exact okW_len (stW_ok hz)
    have h8 := (nm_free hz).2.2.1
    refine ⟨_, rfl, ⟨_, rfl⟩, stL z, " ", rfl, rfl, by decide, Nat.le_trans (Nat.add_le_add_right hl 2) (by decide), fun p1 n1 => ?_⟩
    rw [hsp]
    have sA := same_new (o := .lst ([("program" : Str), "start", z].map V.str)) n1
    have hA := upd_same (H := H) (a := p1) (o := .lst ([("program" : Str), "start", z].map V.str))
    generalize upd H p1 (.lst ([("program" : Str), "start", z].map V.str)) = HA at sA hA ⊢
    refine ⟨_, rfl, p1, _, -1, .str z, rfl, rfl, SqL.of hA, atI3_m1, ?_⟩
    refine ⟨_, rfl, _, rfl, .inl ⟨z, rfl, Nat.le_trans h8 (by decide), fun H6 s6 => ⟨_, rfl, ?_⟩⟩⟩
    refine ⟨true, (· = H6), fun _ => ⟨_, rfl, z, rfl, h8, _, rfl, rfl, _, rfl, decide_eq_true rfl, rfl⟩, (fun e => absurd hz (by rw [e]; decide)), fun H7 e => ?_⟩
    rw [hz]
    exact ⟨.str z, (· = H6), fun _ => ⟨_, rfl, rfl, e⟩, (fun z => nomatch z), fun H8 e => e ▸ k _ (sA.trans s6)⟩
theorem sc_sampler_told : FnScope ["line", "words", "phase", "sampler"] ["line"] (defScope s_sampler_told) := ⟨rfl, rfl, rfl, by decide +kernel, rfl, by decide +kernel, by decide +kernel⟩
-- slots: 0 line, 1 words, 2 phase, 3 sampler
def spSmt (K : PySem.W.Frag) : Sp := fun vs H Q _ => ∃ z : Str, vs = [.str z] ∧ ((∃ r, z = plL r ∧ RwOk r ∧ ∀ H', Same H H' → Q .non H') ∨
  (∃ (n i : Int) (f : V), z = smL n i f ∧ 1 ≤ n ∧ n ≤ 8 ∧ 0 ≤ i ∧ i ≤ n - 1 ∧ PhOk f n ∧ ∀ H' p, Same H H' → SaA (CS K) H' p n i f → Q (.ref p) H'))
theorem ok_sampler_told {fd : FuncData} (F : FnD K ("sampler_told", none) "sampler_told" "sampler_told" s_sampler_told fd) (T : TTxt K mg) (XT : PySem.W.exmOne K (.ref (He.ga K "BadSampler")) (.ref (He.ga K "BadSampler")) = some true) (O_digit_of : OkF P w K mg base CX0 1 "digit_of" ["word"] spDig) (O_sampler_line : OkF P w K mg base CX0 1 "sampler_line" ["sampler"] (spSml K))
    (O_Sampler_init2k : OkK P w K mg base (L2.CX P w) 4 ("Sampler", some "__init__") ["self", "period", "jitter", "phase"] 3 ["phase"] (fun vs zs => vs ++ zs) (spSaI K)) : OkF P w K mg base CX0 6 "sampler_told" ["line"] (spSmt K) := by
  refine okd F (F.ok sc_sampler_told (fun vs H Q E h => ?_) fun cdv A outer s H vs Q E hr h => ?_) fun _ _ _ _ _ _ us hl => match us, hl with | [_], _ => rfl
  · obtain ⟨z, rfl, _⟩ := h
    rfl
  · obtain ⟨z, rfl, h⟩ := h
    refine ⟨_, PSs.nox (pss_cons (ps_set (i := 1) sc_sampler_told.nd rfl (Or.inl rfl) (pe_m1 PySem.F.slot_str_split PySem.F.type_str_split mt_split (pv 0) pe_str))
  (pss_cons (ps_if (pt_cmpR op_ne (pe_callB (id := "len") call_len_seq (by rfl) T.z_len (by decide +kernel) (pa_cons (pv 1) pa_nil)) pe_int (nomark _)) (pss_one (ps_ret pe_non))
  pss_nil)
  (pss_cons (ps_set (i := 2) sc_sampler_told.nd rfl (Or.inl rfl) (pe_ifExpB (pt_cmpR op_eq (pe_ix (ix_listK (K := K) rfl) (pv 1) pe_int (fun _ _ => rfl)) pe_str (nomark _)) pe_non (c_fn O_digit_of hr (by decide) T.g_digit_of pass0 (pa_cons (pe_ix (ix_listK (K := K) rfl) (pv 1) pe_int (fun _ _ => rfl)) pa_nil))))
  (pss_cons (ps_try_only (Wout := fun _ _ _ _ => False) rfl rfl ⟨rfl, by decide, Or.inl T.g_BadSampler⟩ takes0 (fun W pn xe tk _ => (pss_one (ps_set (i := 3) sc_sampler_told.nd rfl (Or.inl rfl) (c_mkK T.m_Sampler O_Sampler_init2k hr (by decide) T.g_Sampler (passAny 4 tk) (pa_cons (c_fn O_digit_of hr (by decide) T.g_digit_of pass0 (pa_cons (pe_ix (ix_listK (K := K) rfl) (pv 1) pe_int (fun _ _ => rfl)) pa_nil)) (pa_cons (c_fn O_digit_of hr (by decide) T.g_digit_of pass0 (pa_cons (pe_ix (ix_listK (K := K) rfl) (pv 1) pe_int (fun _ _ => rfl)) pa_nil)) pa_nil)) (pk_cons (pv 2) pk_nil))))) (fun a oe cls d pn hz hf => (pss_one (ps_ret pe_non))))
  (pss_one (ps_ret (pe_ifExpB (pt_cmpR op_eq (c_fn O_sampler_line hr (by decide) T.g_sampler_line pass0 (pa_cons (pv 3) pa_nil)) (pv 0) (nomark _)) (pv 3) pe_non))))))), ?_⟩
    obtain ⟨ws, hws, hok, hl⟩ : ∃ ws, Txt.split z " " = ws ∧ (∀ w ∈ ws, okW1 w) ∧ z.length ≤ 117 := by
      rcases h with ⟨r, rfl, hr, _⟩ | ⟨n, i, f, rfl, n1, n8, i0, i1, hf, _⟩
      · exact ⟨_, okW_split (by simp [plW]) (plW_ok hr), plW_ok hr, plL_len hr⟩
      · exact ⟨_, okW_split (List.cons_ne_nil _ _) (smW_ok n1 n8 i0 i1 hf), smW_ok n1 n8 i0 i1 hf, Nat.le_trans (smL_len n1 n8 i0 i1 hf) (by decide)⟩
    refine ⟨_, rfl, ⟨_, rfl⟩, z, " ", rfl, rfl, by decide, Nat.le_trans (Nat.add_le_add_right hl 2) (by decide), fun p1 n1 => ?_⟩
    rw [hws]
    have sA := same_new (o := .lst (ws.map V.str)) n1
    have hA := upd_same (H := H) (a := p1) (o := .lst (ws.map V.str))
    generalize upd H p1 (.lst (ws.map V.str)) = HA at sA hA ⊢
    refine ⟨_, rfl, p1, _, rfl, .inl (SqL.of hA), rfl, _, rfl, ?_⟩
    rw [List.length_map]
    rcases h with ⟨r, rfl, hr, k⟩ | ⟨n, i, f, rfl, n1', n8, i0, i1, hf, k⟩
    · obtain rfl : ws = plW r := hws.symm.trans (okW_split (by simp [plW]) (plW_ok hr))
      cases hn : r.ns with
      | cons v vs =>
        have hlen : (plW r).length ≠ 7 := by
          unfold plW
          rw [hn]
          simp [nsW]
        have hd : (!decide (V.int ((plW r).length : Int) = .int 7)) = true := by
          rw [decide_eq_false (fun e => hlen (by have := V.int.inj e; omega))]
          rfl
        rw [hd]
        exact iteT (k _ sA)
      | nil =>
        have hpl : plW r = [("" : Str), "", r.z, kdS r.b, dgS r.l, dgS r.m, "end"] := by
          unfold plW
          rw [hn]
          rfl
        rw [hpl] at hA hok ⊢
        refine iteF ?_
        refine ⟨_, rfl, p1, _, 6, .str "end", rfl, rfl, SqL.of hA, atI_nat (j := 6) rfl, rfl, _, rfl, .int (-1), (· = HA), fun e => absurd (V.str.inj (of_decide_eq_true e)) (by decide +kernel), fun _ => ⟨_, rfl, p1, _, 6, .str "end", rfl, rfl, SqL.of hA, atI_nat (j := 6) rfl, _, rfl, by decide, fun m _ h2 => ⟨by rw [h2 (by decide +kernel)], rfl⟩⟩, fun H2 e => ?_⟩
        subst e
        have big : ∀ w, okW1 w → w.length ≤ sizeLine := fun w h => Nat.le_trans h.2.2 (by decide)
        refine ⟨_, rfl, p1, _, 2, .str r.z, rfl, rfl, SqL.of hA, atI_nat (j := 2) rfl, _, rfl, big _ (hok _ (by simp)), fun n2 _ _ => ⟨_, rfl, p1, _, 4, .str (dgS r.l), rfl, rfl, SqL.of hA, atI_nat (j := 4) rfl, _, rfl, big _ (hok _ (by simp)), fun n4 _ _ => ⟨_, rfl, rfl, rfl, fun p dx np ndx ne => ?_⟩⟩⟩
        have sM := same_make (o1 := .own p) (o2 := .ins (CS K) dx []) np ndx
        obtain ⟨w, hw⟩ : ∃ w, SaIn (upd (upd H2 dx (.own p)) p (.ins (CS K) dx [])) (.int n2) (.int n4) (.int (-1)) w := by
          by_cases c1 : 1 ≤ n2 ∧ n2 ≤ 8
          · by_cases c2 : 0 ≤ n4 ∧ n4 ≤ n2 - 1
            · exact ⟨_, .phase n2 n4 rfl c1.1 c1.2 rfl c2.1 c2.2 (fun z => nomatch z) (.inl ⟨-1, rfl, by omega⟩)⟩
            · exact ⟨_, .jitter n2 rfl c1.1 c1.2 (.inl ⟨n4, rfl, c2⟩)⟩
          · exact ⟨_, .period (.inl ⟨n2, rfl, c1⟩)⟩
        refine ⟨p, dx, .int n2, .int n4, .int (-1), rfl, upd_same, .inl ⟨w, hw, fun d nd σ hσ => ⟨true, XT, fun _ a na => ?_, fun z => Bool.noConfusion z⟩⟩⟩
        exact k _ (sA.trans (sM.trans (same_new nd)))
    · obtain rfl : ws = smW n i f := hws.symm.trans (okW_split (List.cons_ne_nil _ _) (smW_ok n1' n8 i0 i1 hf))
      have hA : HA p1 = some (.lst [.str "sampler", .str "period", .str (dgS n), .str "jitter", .str (dgS i), .str "phase", .str (phS f)]) := hA
      refine iteF ?_
      have big : ∀ w, okW1 w → w.length ≤ sizeLine := fun w h => Nat.le_trans h.2.2 (by decide)
      have hdn := dgI (n := n) (by omega) (by omega)
      have hdi := dgI (n := i) i0 (by omega)
      have hph : (f = .non ∧ phS f = "any") ∨ (∃ q : Int, f = .int q ∧ 0 ≤ q ∧ q ≤ 9 ∧ phS f = Str.ofString (toString q)) := by
        rcases hf with rfl | ⟨q, rfl, q0, q1⟩
        · exact .inl ⟨rfl, rfl⟩
        · exact .inr ⟨q, rfl, q0, by omega, rfl⟩
      refine ⟨_, rfl, p1, _, 6, .str (phS f), rfl, rfl, SqL.of hA, atI_nat (j := 6) rfl, rfl, _, rfl, f, (· = HA), fun e => ?_, fun e => ?_, fun H2 e => ?_⟩
      · rcases hph with ⟨rfl, _⟩ | ⟨q, rfl, q0, q9, eq⟩
        · exact ⟨rfl, rfl⟩
        · have e := V.str.inj (of_decide_eq_true e)
          have := (dgI q0 q9).2.2.1
          rw [← eq, e] at this
          exact absurd this (by decide +kernel)
      · rcases hph with ⟨rfl, _⟩ | ⟨q, rfl, q0, q9, eq⟩
        · exact absurd rfl (of_decide_eq_false e)
        · refine ⟨_, rfl, p1, _, 6, .str (phS (.int q)), rfl, rfl, SqL.of hA, atI_nat (j := 6) rfl, _, rfl, big _ (phS_ok hf n8), fun m h1 _ => ⟨?_, rfl⟩⟩
          have hq := dgI q0 q9
          rw [h1 (by rw [eq]; exact hq.2.2.1), eq, hq.2.2.2.1]
      subst e
      refine ⟨_, rfl, p1, _, 2, .str (dgS n), rfl, rfl, SqL.of hA, atI_nat (j := 2) rfl, _, rfl, (by show (Str.ofString (toString n)).length ≤ _; rw [hdn.2.2.1]; decide), fun n2 g2 _ => ⟨_, rfl, p1, _, 4, .str (dgS i), rfl, rfl, SqL.of hA, atI_nat (j := 4) rfl, _, rfl, (by show (Str.ofString (toString i)).length ≤ _; rw [hdi.2.2.1]; decide), fun n4 g4 _ => ⟨_, rfl, rfl, rfl, fun p dx np ndx ne => ?_⟩⟩⟩
      obtain rfl := (g2 hdn.2.2.1).trans hdn.2.2.2.1
      obtain rfl := (g4 hdi.2.2.1).trans hdi.2.2.2.1
      refine ⟨p, dx, .int n2, .int n4, f, rfl, upd_same, .inr ⟨n2, n4, ⟨rfl, n1', n8, rfl, i0, i1, hf⟩, rfl, ?_⟩⟩
      have sM := same_make2 (o1 := .own p) (o2 := .ins (CS K) dx []) (o3 := .ins (CS K) dx (saf n2 n4 f)) np ndx
      have hSa : SaA (CS K) (upd (upd (upd H2 dx (.own p)) p (.ins (CS K) dx [])) p (.ins (CS K) dx (saf n2 n4 f))) p n2 n4 f := ⟨dx, upd_same⟩
      refine ⟨_, rfl, p, n2, n4, f, rfl, hSa, n1', n8, i0, i1, hf, _, rfl, rfl, _, rfl, ?_⟩
      rw [decide_eq_true rfl]
      exact ⟨.ref p, (· = _), fun _ => ⟨_, rfl, rfl, rfl⟩, (fun c => Bool.noConfusion c), fun H3 e => e ▸ k _ p (sA.trans sM) hSa⟩
theorem sc_place_told : FnScope ["line", "words", "ways", "way", "place"] ["line"] (defScope s_place_told) := ⟨rfl, rfl, rfl, by decide +kernel, rfl, by decide +kernel, by decide +kernel⟩
-- slots: 0 line, 1 words, 2 ways, 3 way, 4 place
def spPlt (K : PySem.W.Frag) : Sp := fun vs H Q _ => ∃ r : Rw, vs = [.str (plL r)] ∧ RwOk r ∧ ∀ H' t p q, Same H H' → H' t = some (.tup [.ref p, .ref q]) → PlA (CP K) H' p r.z r.l r.m r.b → H' q = some (.tup (r.ns.map V.str)) → Q (.ref t) H'
theorem ok_place_told {fd : FuncData} (F : FnD K ("place_told", none) "place_told" "place_told" s_place_told fd) (T : TTxt K mg) (O_is_name : OkF P w K mg base CX0 1 "is_name" ["x"] spName) (O_has_twins : OkF P w K mg base CX0 1 "has_twins" ["items"] (spTw K)) (O_digit_of : OkF P w K mg base CX0 1 "digit_of" ["word"] spDig) (O_place_line : OkF P w K mg base CX0 1 "place_line" ["place", "ways"] (spPln K))
    (O_Place_init3k : OkK P w K mg base (L2.CX P w) 4 ("Place", some "__init__") ["self", "name", "least", "most", "let"] 4 ["let"] (fun vs zs => vs ++ zs) (spPlI K)) : OkF P w K mg base CX0 6 "place_told" ["line"] (spPlt K) := by
  refine okd F (F.ok sc_place_told (fun vs H Q E h => ?_) fun cdv A outer s H vs Q E hr h => ?_) fun _ _ _ _ _ _ us hl => match us, hl with | [_], _ => rfl
  · obtain ⟨r, rfl, _⟩ := h
    rfl
  · obtain ⟨r, rfl, hr2, k⟩ := h
    refine ⟨_, PSs.nox (pss_cons (ps_set (i := 1) sc_place_told.nd rfl (Or.inl rfl) (pe_m1 PySem.F.slot_str_split PySem.F.type_str_split mt_split (pv 0) pe_str))
  (pss_cons (ps_set (i := 2) sc_place_told.nd rfl (Or.inl rfl) (pe_callTy call_tuple_of (by rfl) T.z_tuple (by decide +kernel) (pa_cons (pe_slice sl_list (pv 1) (po_some pe_int) po_none) pa_nil)))
  (pss_cons (ps_if (PW.pt (pw_orB (pt_cmpR op_lt (pe_callB (id := "len") call_len_seq (by rfl) T.z_len (by decide +kernel) (pa_cons (pv 1) pa_nil)) pe_int (nomark _)) (pw_orB (pt_not (pt_val (pe_callB (id := "all") (cr_all rfl) (by rfl) T.z_all (by decide +kernel) (pa_cons (pe_lc (own := [("way", 3)]) (g := gName 3) (tt := tYes) (by rfl) sc_place_told.nd (pi_tup (pv 2)) (blkOk_by (N := ["line", "words", "ways", "way", "place"]) (sc := defScope s_place_told) (by decide +kernel)) (fun _ _ _ _ _ => (pg_name (i := 3) sc_place_told.nd rfl (Or.inl rfl))) (fun _ _ _ _ _ => pts_nil) (fun _ _ _ _ _ => (c_fn O_is_name hr (by decide) T.g_is_name pass0 (pa_cons (pv 3) pa_nil)))) pa_nil)))) (pw_or1 (pt_val (c_fn O_has_twins hr (by decide) T.g_has_twins pass0 (pa_cons (pv 2) pa_nil))))))) (pss_one (ps_ret pe_non))
  pss_nil)
  (pss_cons (ps_try_only (Wout := fun _ _ _ _ => False) rfl rfl ⟨rfl, by decide, Or.inl T.g_BadPlace⟩ takes0 (fun W pn xe tk _ => (pss_one (ps_set (i := 4) sc_place_told.nd rfl (Or.inl rfl) (c_mkK T.m_Place O_Place_init3k hr (by decide) T.g_Place (passAny 5 tk) (pa_cons (pe_ix (ix_listK (K := K) rfl) (pv 1) pe_int (fun _ _ => rfl)) (pa_cons (c_fn O_digit_of hr (by decide) T.g_digit_of pass0 (pa_cons (pe_ix (ix_listK (K := K) rfl) (pv 1) pe_int (fun _ _ => rfl)) pa_nil)) (pa_cons (c_fn O_digit_of hr (by decide) T.g_digit_of pass0 (pa_cons (pe_ix (ix_listK (K := K) rfl) (pv 1) pe_int (fun _ _ => rfl)) pa_nil)) pa_nil))) (pk_cons (pe_cmpR op_eq (pe_ix (ix_listK (K := K) rfl) (pv 1) pe_int (fun _ _ => rfl)) pe_str (nomark _)) pk_nil))))) (fun a oe cls d pn hz hf => (pss_one (ps_ret pe_non))))
  (pss_one (ps_ret (pe_weak (pe_ifExp (pt_cmpR op_eq (c_fn O_place_line hr (by decide) T.g_place_line pass0 (pa_cons (pv 4) (pa_cons (pv 2) pa_nil))) (pv 0) (nomark _)) (pe_tup (pa_cons (pv 4) (pa_cons (pv 2) pa_nil))) pe_non)))))))), ?_⟩
    have hpl := okW_split (by simp [plW]) (plW_ok hr2)
    have hl := plL_len hr2
    have hok := plW_ok hr2
    have hlen : (plW r).length = 7 + r.ns.length := by
      unfold plW
      cases r.ns <;> simp [nsW] <;> omega
    have hdrop : ((plW r).map V.str).drop 7 = r.ns.map V.str := by
      unfold plW
      cases r.ns <;> rfl
    refine ⟨_, rfl, ⟨_, rfl⟩, plL r, " ", rfl, rfl, by decide, Nat.le_trans (Nat.add_le_add_right hl 2) (by decide), fun p1 n1 => ?_⟩
    rw [show Txt.split (plL r) " " = plW r from hpl]
    have sA := same_new (o := .lst ((plW r).map V.str)) n1
    have hA := upd_same (H := H) (a := p1) (o := .lst ((plW r).map V.str))
    generalize upd H p1 (.lst ((plW r).map V.str)) = HA at sA hA ⊢
    refine ⟨_, rfl, 7, rfl, p1, _, rfl, SqL.of hA, fun p2 n2 => ?_⟩
    rw [cutV_frI (r := 7) (by decide) (by rw [List.length_map, hlen]; exact Nat.le_add_right 7 _)]
    have e7 : ((plW r).map V.str).drop (7 : Int).toNat = r.ns.map V.str := hdrop
    rw [e7]
    have sB := same_new (o := .lst (r.ns.map V.str)) n2
    refine ⟨p2, _, rfl, .inl ⟨SqL.of upd_same, fun q nq => ?_⟩⟩
    have sC := sB.trans (same_new (o := .tup (r.ns.map V.str)) nq)
    have hq := upd_same (H := upd HA p2 (.lst (r.ns.map V.str))) (a := q) (o := .tup (r.ns.map V.str))
    have hC := sC _ _ hA
    replace sC := sA.trans sC
    generalize upd (upd HA p2 (.lst (r.ns.map V.str))) q (.tup (r.ns.map V.str)) = HC at sC hq hC ⊢
    refine ⟨_, rfl, p1, _, rfl, .inl (SqL.of hC), _, _, rfl, rfl, _, rfl, false, fun H' => Same HC H', fun _ => ?_, fun c => ?_, fun H6 s6 => ?_⟩
    · refine ⟨_, rfl, q, rfl, ⟨_, SqT.of hq⟩, fun D nD => lc_it walk_tup (fun j H' => Same HC H' ∧ H' D = some (.lst (((r.ns.take j).map nmB).map V.bl))) ⟨same_new nD, upd_same⟩ (fun j H' _ h => SqT.of (h.1 _ _ hq)) ?_ ?_⟩
      · rintro j x H6 H' hj ⟨sg, hD⟩ ⟨rfl, hx⟩
        rw [List.length_map] at hj
        have hoj : r.ns[j]? = some r.ns[j] := List.getElem?_eq_getElem hj
        generalize r.ns[j] = v at hoj
        obtain rfl : x = .str v := by
          rw [List.getElem?_map, hoj] at hx
          exact (Option.some.inj hx).symm
        have hv := hr2.2.2.2.2.1 v (List.mem_of_getElem? hoj)
        refine ⟨rfl, _, rfl, _, rfl, .inl ⟨v, rfl, Nat.le_trans (nm_free hv).2.2.1 (by decide), fun H7 s7 => ⟨_, s7 _ _ hD, ?_, same_app (sg.trans s7) (Same.refl _) nD, ?_⟩⟩⟩
        · rw [List.length_map, List.length_map, List.length_take]
          exact Nat.lt_of_le_of_lt (show _ ≤ 2001 by have := hr2.2.2.2.2.2.2; omega) (by decide)
        · rw [upd_same, List.take_add_one, hoj, List.map_append, List.map_append]
          rfl
      · rintro H6 ⟨s6, hD⟩
        rw [List.length_map, List.take_length] at hD
        have hall : (r.ns.map nmB).all id = true := by
          rw [List.all_map, List.all_eq_true]
          exact fun v hv => hr2.2.2.2.2.1 v hv
        refine ⟨D, r.ns.map nmB, rfl, SqL.of hD, _, rfl, ?_⟩
        rw [hall]
        refine ⟨false, fun H' => Same HC H', fun _ => ⟨_, rfl, q, r.ns, rfl, by have := hr2.2.2.2.2.2.2; omega, .inr (SqT.of (s6 _ _ hq)), fun H7 s7 => ⟨_, rfl, ?_, s6.trans s7⟩⟩, (fun c => Bool.noConfusion c), fun H7 s7 => ⟨rfl, s7⟩⟩
        rw [decide_eq_true hr2.2.2.2.2.2.1]
        rfl
    · have := of_decide_eq_true c
      rw [List.length_map, hlen] at this
      omega
    have d7 : decide ((((plW r).map V.str).length : Int) < 7) = false := decide_eq_false (by rw [List.length_map, hlen]; omega)
    rw [d7]
    refine iteF ?_
    have hdl := dgI (n := r.l) (by have := hr2.2.1; omega) (by have := hr2.2.2.1; have := hr2.2.2.2.1; omega)
    have hdm := dgI (n := r.m) (by have := hr2.2.1; have := hr2.2.2.1; omega) (by have := hr2.2.2.2.1; omega)
    have hA6 : H6 p1 = some (.lst ([.str "", .str "", .str r.z, .str (kdS r.b), .str (dgS r.l), .str (dgS r.m)] ++ (nsW r.ns).map V.str)) := by
      rw [s6 _ _ hC]
      unfold plW
      rw [List.map_append]
      rfl
    have q6 := s6 _ _ hq
    have sD := sC.trans s6
    refine ⟨_, rfl, p1, _, 2, .str r.z, rfl, rfl, SqL.of hA6, atI_nat (j := 2) rfl, _, rfl, p1, _, 4, .str (dgS r.l), rfl, rfl, SqL.of hA6, atI_nat (j := 4) rfl, _, rfl, (by show (Str.ofString (toString r.l)).length ≤ _; rw [hdl.2.2.1]; decide), fun nl gl _ => ⟨_, rfl, p1, _, 5, .str (dgS r.m), rfl, rfl, SqL.of hA6, atI_nat (j := 5) rfl, _, rfl, (by show (Str.ofString (toString r.m)).length ≤ _; rw [hdm.2.2.1]; decide), fun nm gm _ => ⟨_, rfl, p1, _, 3, .str (kdS r.b), rfl, rfl, SqL.of hA6, atI_nat (j := 3) rfl, rfl, rfl, rfl, fun p dx np ndx ne => ?_⟩⟩⟩
    obtain rfl := (gl hdl.2.2.1).trans hdl.2.2.2.1
    obtain rfl := (gm hdm.2.2.1).trans hdm.2.2.2.1
    have hb : (V.bl (decide (V.str (kdS r.b) = .str "open")) : V) = .bl r.b := by
      cases r.b <;> decide +kernel
    have sM := same_make (o1 := .own p) (o2 := .ins (CP K) dx []) np ndx
    refine ⟨p, dx, .str r.z, .int r.l, .int r.m, _, rfl, upd_same, .inr ⟨r.z, r.l, r.m, r.b, ⟨rfl, Nat.le_trans (nm_free hr2.1).2.2.1 (by decide), hr2.1, rfl, hr2.2.1, hr2.2.2.1, hr2.2.2.2.1, .inl rfl, hb⟩, fun H7 s7 => ⟨rfl, ?_⟩⟩⟩
    have sP := same_app (o := .ins (CP K) dx (plf r.z r.l r.m r.b)) sM s7 np
    have hP : PlA (CP K) (upd H7 p (.ins (CP K) dx (plf r.z r.l r.m r.b))) p r.z r.l r.m r.b := ⟨dx, upd_same⟩
    have qP := sP _ _ q6
    generalize upd H7 p (.ins (CP K) dx (plf r.z r.l r.m r.b)) = HP at sP hP qP ⊢
    refine ⟨fun y Hx => ∃ t, y = .ref t ∧ Same HP Hx ∧ Hx t = some (.tup [.ref p, .ref q]), ⟨_, rfl, _, rfl, p, q, r, rfl, hP, qP, hr2, fun H8 s8 => ⟨_, rfl, rfl, _, rfl, ?_⟩⟩, ?_⟩
    · rw [decide_eq_true rfl]
      exact iteT ⟨_, rfl, _, rfl, (by show 2 ≤ sizeLine; decide), fun t nt => ⟨t, rfl, s8.trans (same_new nt), upd_same⟩⟩
    · rintro y Hx ⟨t, rfl, sx, ht⟩
      exact k _ t p q (sD.trans (sP.trans sx)) ht (hP.ext sx) (sx _ _ qP)
end
end K36

set_option Elab.async false
set_option linter.all false
set_option pp.deepTerms.threshold 14
set_option pp.maxSteps 2500
set_option maxRecDepth 100000
set_option maxHeartbeats 2000000
namespace K36
open PySem PySem.Spec PyProof.Rows L2 Vf
section
variable {P : Program} {w : World} {K : PySem.W.Frag} {mg : Str → Option Value} {base : Heap}
theorem nodup_add1 {α : Type} {l : List α} {a : α} (h : l.Nodup) (n : a ∉ l) : (l ++ [a]).Nodup := List.nodup_append.mpr ⟨h, by simp, fun x hx y hy => by
  rw [List.mem_singleton] at hy
  rw [hy]
  exact fun e => n (e ▸ hx)⟩
def wN (zs : List Str) : List Str → List Str
  | [] => zs
  | m :: ms => wN (if m ∈ zs then zs else zs ++ [m]) ms
theorem wN_snoc : ∀ {ms zs : List Str} {m : Str}, wN zs (ms ++ [m]) = (if m ∈ wN zs ms then wN zs ms else wN zs ms ++ [m])
  | [], _, _ => rfl
  | k :: ms, zs, m => by
    show wN (if k ∈ zs then zs else zs ++ [k]) (ms ++ [m]) = _
    rw [wN_snoc]
    rfl
theorem wN_len : ∀ {ms zs : List Str}, (wN zs ms).length ≤ zs.length + ms.length
  | [], _ => Nat.le_refl _
  | k :: ms, zs => by
    have h := wN_len (ms := ms) (zs := if k ∈ zs then zs else zs ++ [k])
    show (wN (if k ∈ zs then zs else zs ++ [k]) ms).length ≤ _
    by_cases hk : k ∈ zs
    · rw [if_pos hk] at h ⊢
      rw [List.length_cons]
      omega
    · rw [if_neg hk] at h ⊢
      rw [List.length_append] at h
      simp at h
      rw [List.length_cons]
      omega
theorem wN_nd : ∀ {ms zs : List Str}, zs.Nodup → (wN zs ms).Nodup
  | [], _, h => h
  | k :: ms, zs, h => by
    show (wN (if k ∈ zs then zs else zs ++ [k]) ms).Nodup
    by_cases hk : k ∈ zs
    · rw [if_pos hk]
      exact wN_nd h
    · rw [if_neg hk]
      exact wN_nd (nodup_add1 h hk)
theorem wN_mem : ∀ {ms zs : List Str} {v : Str}, v ∈ wN zs ms ↔ v ∈ zs ∨ v ∈ ms
  | [], zs, v => by simp [wN]
  | k :: ms, zs, v => by
    show v ∈ wN (if k ∈ zs then zs else zs ++ [k]) ms ↔ _
    rw [wN_mem]
    by_cases hk : k ∈ zs
    · rw [if_pos hk, List.mem_cons]
      constructor
      · rintro (h | h)
        · exact .inl h
        · exact .inr (.inr h)
      · rintro (h | rfl | h)
        · exact .inl h
        · exact .inl hk
        · exact .inr h
    · rw [if_neg hk, List.mem_append, List.mem_singleton, List.mem_cons]
      constructor
      · rintro ((h | h) | h)
        · exact .inl h
        · exact .inr (.inl h)
        · exact .inr (.inr h)
      · rintro (h | h | h)
        · exact .inl (.inl h)
        · exact .inl (.inr h)
        · exact .inr h
theorem sc_with_names : FnScope ["names", "more", "found", "name"] ["names", "more"] (defScope s_with_names) := ⟨rfl, rfl, rfl, by decide +kernel, rfl, by decide +kernel, by decide +kernel⟩
-- slots: 0 names, 1 more, 2 found, 3 name
def spWn : Sp := fun vs H Q _ => ∃ (L M : Addr) (zs ms : List Str), vs = [.ref L, .ref M] ∧ H L = some (.lst (zs.map V.str)) ∧ H M = some (.tup (ms.map V.str)) ∧ zs.length + ms.length ≤ 1000 ∧ ∀ H' F, Same H H' → H F = none → H' F = some (.lst ((wN zs ms).map V.str)) → Q (.ref F) H'
theorem ok_with_names {fd : FuncData} (F : FnD K ("with_names", none) "with_names" "with_names" s_with_names fd) (T : TTxt K mg) : OkF P w K mg base CX0 1 "with_names" ["names", "more"] spWn := by
  refine okd F (F.ok sc_with_names (fun vs H Q E h => ?_) fun cdv A outer s H vs Q E hr h => ?_) fun _ _ _ _ _ _ us hl => match us, hl with | [_, _], _ => rfl
  · obtain ⟨L, M, zs, ms, rfl, _⟩ := h
    rfl
  · obtain ⟨L, M, zs, ms, rfl, hL, hM, hlen, k⟩ := h
    refine ⟨_, PSs.nox (pss_cons (ps_set (i := 2) sc_with_names.nd rfl (Or.inl rfl) (pe_callTy call_list_of (by rfl) T.z_list (by decide +kernel) (pa_cons (pv 0) pa_nil)))
  (pss_cons (ps_for PassesOwn.never rfl (pi_tup (pv 1)) (pg_name (i := 3) sc_with_names.nd rfl (Or.inl rfl))
  (pss_one (ps_if (pt_cmpR op_notIn_seq (pv 3) (pv 2) rfl) (pss_one (ps_expr (pe_bm PySem.F.plainAttrs_list PySem.F.slot_list_append PySem.F.type_list_append mt_append (pv 2) (pa_cons (pv 3) pa_nil))))
  pss_nil)))
  (pss_one (ps_ret (pv 2))))), ?_⟩
    refine ⟨_, rfl, L, _, rfl, .inl (SqL.of hL), fun F nF => ?_⟩
    have s1 := same_new (o := .lst (zs.map V.str)) nF
    have hF1 := upd_same (H := H) (a := F) (o := .lst (zs.map V.str))
    generalize upd H F (.lst (zs.map V.str)) = H1 at s1 hF1 ⊢
    refine ⟨_, rfl, M, rfl, ⟨_, SqT.of (s1 _ _ hM)⟩, for_it walk_tup (fun j σ H' => Same H H' ∧ H' F = some (.lst ((wN zs (ms.take j)).map V.str)) ∧ ∃ v3 : Option V, σ = [some (.ref L), some (.ref M), some (.ref F), v3]) ⟨s1, hF1, none, rfl⟩ (fun j σ H' _ h => SqT.of (h.1 _ _ hM)) ?_ ?_⟩
    · rintro j x σ H6 H' hj ⟨sg, hF, v3, rfl⟩ ⟨rfl, hx⟩
      rw [List.length_map] at hj
      have hoj : ms[j]? = some ms[j] := List.getElem?_eq_getElem hj
      generalize ms[j] = m at hoj
      obtain rfl : x = .str m := by
        rw [List.getElem?_map, hoj] at hx
        exact (Option.some.inj hx).symm
      have et : ms.take (j + 1) = ms.take j ++ [m] := by rw [List.take_add_one, hoj]; rfl
      refine ⟨_, rfl, _, rfl, _, _, rfl, .inl (SqL.of hF), rfl, flat_str _, _, rfl, ?_⟩
      rw [inV_str, et, wN_snoc]
      by_cases hm : m ∈ wN zs (ms.take j)
      · rw [decide_eq_true hm, if_pos hm]
        exact iteF ⟨sg, hF, _, rfl⟩
      · rw [decide_eq_false hm, if_neg hm]
        refine iteT ⟨_, rfl, .inl ⟨rfl, _, SqL.of hF⟩, _, rfl, F, _, _, rfl, rfl, hF, ?_, same_app sg (Same.refl _) nF, ?_, _, rfl⟩
        · have := wN_len (zs := zs) (ms := ms.take j)
          rw [List.length_take] at this
          rw [List.length_map]
          exact Nat.lt_of_le_of_lt (show _ ≤ 1000 by omega) (by decide)
        · rw [upd_same, List.map_append]
          rfl
    · rintro σ H6 ⟨sg, hF, v3, rfl⟩
      rw [List.length_map, List.take_length] at hF
      exact ⟨_, rfl, k _ F sg nF hF⟩
abbrev PgT : Type := PgE × Addr
def zsY (ys : List PgT) : List Str := ys.map fun y => y.1.2.2.z
def kvY (ys : List PgT) : List (Key × V) := ys.map fun y => ((Sum.inr y.1.2.2.z : Key), V.ref y.2)
theorem zsY_of (ys : List PgT) : zsOf (ys.map (·.1)) = zsY ys := by
  unfold zsOf zsY
  rw [List.map_map]
  rfl
theorem valY : ∀ {ys : List PgT} {i : Nat} {y : PgT}, (zsY ys).Nodup → ys[i]? = some y → valV (kvY ys) (Sum.inr y.1.2.2.z) = some (.ref y.2)
  | u :: ys, 0, y, nd, h => by
    cases h
    exact valV_pos rfl
  | u :: ys, i + 1, y, nd, h => by
    have h' : ys[i]? = some y := h
    have nd' : (u.1.2.2.z :: zsY ys).Nodup := nd
    rw [List.nodup_cons] at nd'
    show valV ((Sum.inr u.1.2.2.z, V.ref u.2) :: kvY ys) _ = _
    rw [valV_neg fun z => nd'.1 ?_]
    · exact valY nd'.2 h'
    · have : u.1.2.2.z = y.1.2.2.z := Sum.inr.inj z
      rw [this]
      exact List.mem_map_of_mem (List.mem_of_getElem? h')
theorem missY {z : Str} : ∀ {ys : List PgT}, z ∉ zsY ys → valV (kvY ys) (Sum.inr z) = none
  | [], _ => rfl
  | y :: ys, h => by
    have h1 : ¬ y.1.2.2.z = z := fun e => h (e ▸ List.mem_cons_self ..)
    show valV ((Sum.inr y.1.2.2.z, V.ref y.2) :: kvY ys) _ = _
    rw [valV_neg (fun e => h1 (Sum.inr.inj e))]
    exact missY fun hm => h (List.mem_cons_of_mem _ hm)
theorem putY {ys : List PgT} {y : PgT} (h : y.1.2.2.z ∉ zsY ys) : putK (kvY ys) (Sum.inr y.1.2.2.z) (.ref y.2) = kvY (ys ++ [y]) := by
  rw [putK_new _ (missY h)]
  unfold kvY
  rw [List.map_append]
  rfl
theorem unlock {H H' : Hp} {D : Addr} {u : HO} {od : Obj} (hD : H D = some u) (s : Same (upd H D (.frz od u)) H') : Same H (upd H' D u) := fun p o e => by
  by_cases h : p = D
  · subst h
    rw [upd_same]
    rw [hD] at e
    exact e
  · rw [upd_ne h]
    exact s p o (by rw [upd_ne h]; exact e)
/-- at D the rows that were read: names to (place, nexts) -/
structure RdA (K : PySem.W.Frag) (H : Hp) (D : Addr) (ys : List PgT) : Prop where
  hD : H D = some (.dK (kvY ys))
  tp : ∀ y ∈ ys, H y.2 = some (.tup [.ref y.1.1, .ref y.1.2.1])
  pl : ∀ y ∈ ys, PlE K H y.1
  ns : ∀ y ∈ ys, H y.1.2.1 = some (.tup (y.1.2.2.ns.map V.str))
theorem RdA.ext {K : PySem.W.Frag} {H H' : Hp} {D : Addr} {ys : List PgT} (h : RdA K H D ys) (s : Same H H') : RdA K H' D ys := ⟨s _ _ h.hD, fun y hy => s _ _ (h.tp y hy), fun y hy => (h.pl y hy).ext s, fun y hy => s _ _ (h.ns y hy)⟩
theorem takeY {α : Type} (f : PgT → α) {ys : List PgT} {j : Nat} {y : PgT} (h : ys[j]? = some y) : (ys.take (j + 1)).map f = (ys.take j).map f ++ [f y] := by
  rw [List.take_add_one, h, List.map_append]
  rfl
theorem sc_program_with : FnScope ["rows", "start", "name"] ["rows", "start"] (defScope s_program_with) := ⟨rfl, rfl, rfl, by decide +kernel, rfl, by decide +kernel, by decide +kernel⟩
-- slots: 0 rows, 1 start, 2 name
def spPgw (K : PySem.W.Frag) : Sp := fun vs H Q _ => ∃ (D : Addr) (ys : List PgT) (s : Str), vs = [.ref D, .str s] ∧ RdA K H D ys ∧ (zsY ys).Nodup ∧ 1 ≤ ys.length ∧ ys.length ≤ 6 ∧ s ∈ zsY ys ∧ (∀ y ∈ ys, RwOk y.1.2.2 ∧ ∀ v ∈ y.1.2.2.ns, v ∈ zsY ys) ∧
  ∀ H' g dx tn dP dN, Same H H' → PgA K H' g (ys.map (·.1)) s dx tn dP dN → H dP = none → H dN = none → Q (.ref g) H'
theorem ok_program_with {fd : FuncData} (F : FnD K ("program_with", none) "program_with" "program_with" s_program_with fd) (T : TTxt K mg) (O_Program_init2k : OkK P w K mg base (L2.CX P w) 5 ("Program", some "__init__") ["self", "places", "nexts", "start"] 3 ["start"] (fun vs zs => vs ++ zs) (spPgI K)) : OkF P w K mg base (L2.CX P w) 7 "program_with" ["rows", "start"] (spPgw K) := by
  refine okd F (F.ok sc_program_with (fun vs H Q E h => ?_) fun cdv A outer s H vs Q E hr h => ?_) fun _ _ _ _ _ _ us hl => match us, hl with | [_, _], _ => rfl
  · obtain ⟨D, ys, s, rfl, _⟩ := h
    rfl
  · obtain ⟨D, ys, st, rfl, hR, nd, l1, l6, hst, hrow, k⟩ := h
    refine ⟨_, (pss_one (ps_ret (c_mkK T.m_Program O_Program_init2k hr (by decide) T.g_Program passL (pa_cons (pe_lock (pe_lc (own := [("name", 2)]) (g := gName 2) (tt := tYes) (by rfl) sc_program_with.nd (pi_keys (pv 0)) (blkOk_by (N := ["rows", "start", "name"]) (sc := defScope s_program_with) (by decide +kernel)) (fun _ _ _ _ _ => (pg_name (i := 2) sc_program_with.nd rfl (Or.inl rfl))) (fun _ _ _ _ _ => pts_nil) (fun _ _ _ _ _ => (pe_ix (ix_tupK (K := K) rfl) (pe_dget (hu_of hr) (pv 0) (pv 2) (fun _ _ => rfl)) pe_int (fun _ _ => rfl))))) (pa_cons (pe_lock (pe_dc (own := [("name", 2)]) (g := gName 2) (tt := tYes) (by rfl) sc_program_with.nd (pi_keys (pv 0)) (blkOk_by (N := ["rows", "start", "name"]) (sc := defScope s_program_with) (by decide +kernel)) (fun _ _ _ _ _ => (pg_name (i := 2) sc_program_with.nd rfl (Or.inl rfl))) (fun _ _ _ _ _ => pts_nil) (fun _ _ _ _ _ => (pv 2)) (fun _ _ _ _ _ => (pe_ix (ix_tupK (K := K) rfl) (pe_dget (hu_of hr) (pv 0) (pv 2) (fun _ _ => rfl)) pe_int (fun _ _ => rfl))))) pa_nil)) (pk_cons (pv 1) pk_nil)))), ?_⟩
    refine ⟨D, _, hR.hD, trivial, fun od => ?_⟩
    have hDf := upd_same (H := H) (a := D) (o := .frz od (.dK (kvY ys)))
    have nt : ∀ {p : Addr} {xs : List V}, H p = some (.tup xs) → p ≠ D := fun h e => by
      rw [e, hR.hD] at h
      cases h
    have htF : ∀ y ∈ ys, (upd H D (.frz od (.dK (kvY ys)))) y.2 = some (.tup [.ref y.1.1, .ref y.1.2.1]) := fun y hy => by
      rw [upd_ne (nt (hR.tp y hy))]
      exact hR.tp y hy
    have unl : ∀ {H'}, Same (upd H D (.frz od (.dK (kvY ys)))) H' → Same H (upd H' D (.dK (kvY ys))) := fun s => unlock hR.hD s
    generalize upd H D (.frz od (.dK (kvY ys))) = Hf at hDf htF unl ⊢
    refine ⟨_, rfl, D, od, rfl, .inl ⟨_, hDf, fun P nP => lc_it walk_keys (fun j H' => Same Hf H' ∧ H' P = some (.lst ((ys.take j).map fun y => V.ref y.1.1))) ⟨same_new nP, upd_same⟩ (fun j H' _ h => h.1 _ _ hDf) ?_ ?_⟩⟩
    · rintro j x H6 H' hj ⟨sg, hP⟩ ⟨rfl, kk, v, hkv, rfl⟩
      unfold kvY at hkv
      rw [List.getElem?_map] at hkv
      obtain ⟨y, hy, e⟩ := Option.map_eq_some_iff.mp hkv
      obtain ⟨rfl, rfl⟩ := Prod.mk.inj e
      refine ⟨rfl, _, rfl, _, rfl, D, V.ref y.2, rfl, .inl ⟨_, Sum.inr y.1.2.2.z, .inr ⟨od, sg _ _ hDf⟩, rfl, (valY nd hy).symm⟩, y.2, _, 0, .ref y.1.1, rfl, rfl, SqT.of (sg _ _ (htF y (List.mem_of_getElem? hy))), atI0, _, hP, ?_, same_app sg (Same.refl _) nP, ?_⟩
      · rw [List.length_map, List.length_take]
        exact Nat.lt_of_le_of_lt (show _ ≤ 1000 by omega) (by decide)
      · rw [upd_same, takeY _ hy]
    · rintro H6 ⟨s6, hP⟩
      have eT : ys.take (kvY ys).length = ys := by
        unfold kvY
        rw [List.length_map, List.take_length]
      rw [eT] at hP
      refine ⟨s6 _ _ hDf, ?_⟩
      have nPD : P ≠ D := (ne_of_none hDf nP).symm
      have s7 := unl s6
      have hP7 : (upd H6 D (.dK (kvY ys))) P = some (.lst (ys.map fun y => V.ref y.1.1)) := by
        rw [upd_ne nPD]
        exact hP
      have nP0 : H P = none := by
        cases e : H P with
        | none => rfl
        | some o =>
          have := unl (Same.refl _) _ _ e
          rw [upd_ne nPD, nP] at this
          cases this
      generalize upd H6 D (.dK (kvY ys)) = H7 at s7 hP7 ⊢
      clear hDf htF unl nP s6 hP nt
      have hR7 := hR.ext s7
      refine ⟨D, _, hR7.hD, trivial, fun od2 => ?_⟩
      have hDf := upd_same (H := H7) (a := D) (o := .frz od2 (.dK (kvY ys)))
      have htF : ∀ y ∈ ys, (upd H7 D (.frz od2 (.dK (kvY ys)))) y.2 = some (.tup [.ref y.1.1, .ref y.1.2.1]) := fun y hy => by
        have h := hR7.tp y hy
        rw [upd_ne fun e => ?_]
        · exact h
        · rw [e, hR7.hD] at h
          cases h
      have unl : ∀ {H'}, Same (upd H7 D (.frz od2 (.dK (kvY ys)))) H' → Same H7 (upd H' D (.dK (kvY ys))) := fun s => unlock hR7.hD s
      have none7 : ∀ {p : Addr}, (upd H7 D (.frz od2 (.dK (kvY ys)))) p = none → H7 p = none := fun {p} n => by
        by_cases e : p = D
        · rw [e, upd_same] at n
          cases n
        · rw [upd_ne e] at n
          exact n
      generalize upd H7 D (.frz od2 (.dK (kvY ys))) = Hf at hDf htF unl none7 ⊢
      have ndx : (zsOf (ys.map (·.1))).Nodup := by
        rw [zsY_of]
        exact nd
      refine ⟨_, rfl, D, od2, rfl, .inl ⟨_, hDf, fun N nN => dc_it walk_keys (fun j H' => Same Hf H' ∧ H' N = some (.dK (((ys.map (·.1)).take j).map fun y => ((Sum.inr y.2.2.z : Key), V.ref y.2.1)))) ⟨same_new nN, upd_same⟩ (fun j H' _ h => h.1 _ _ hDf) ?_ ?_⟩⟩
      · rintro j x H6 H' hj ⟨sg, hN⟩ ⟨rfl, kk, v, hkv, rfl⟩
        unfold kvY at hkv
        rw [List.getElem?_map] at hkv
        obtain ⟨y, hy, e⟩ := Option.map_eq_some_iff.mp hkv
        obtain ⟨rfl, rfl⟩ := Prod.mk.inj e
        have hy1 : (ys.map (·.1))[j]? = some y.1 := by rw [List.getElem?_map, hy]; rfl
        refine ⟨rfl, _, rfl, _, rfl, _, rfl, D, V.ref y.2, rfl, .inl ⟨_, Sum.inr y.1.2.2.z, .inr ⟨od2, sg _ _ hDf⟩, rfl, (valY nd hy).symm⟩, y.2, _, 1, .ref y.1.2.1, rfl, rfl, SqT.of (sg _ _ (htF y (List.mem_of_getElem? hy))), atI1, _, Sum.inr y.1.2.2.z, rfl, hN, ?_, same_app sg (Same.refl _) nN, ?_⟩
        · rw [List.length_map, List.length_take, List.length_map]
          exact Nat.lt_of_le_of_lt (show _ ≤ 1000 by omega) (by decide)
        · rw [upd_same, put_row (f := fun y => V.ref y.2.1) ndx hy1]
      · rintro H6 ⟨s6, hN⟩
        have eT : (ys.map (·.1)).take (kvY ys).length = ys.map (·.1) := by
          unfold kvY
          rw [List.length_map, ← List.length_map (f := fun y : PgT => y.1), List.take_length]
        rw [eT] at hN
        refine ⟨s6 _ _ hDf, ?_⟩
        have nND : N ≠ D := (ne_of_none hDf nN).symm
        have nN7 := none7 nN
        have nPN : P ≠ N := ne_of_none hP7 nN7
        have s8 := unl s6
        have hN8 : (upd H6 D (.dK (kvY ys))) N = some (.dK (kvN (ys.map (·.1)))) := by
          rw [upd_ne nND]
          exact hN
        generalize upd H6 D (.dK (kvY ys)) = H8 at s8 hN8 ⊢
        have hP8 := s8 _ _ hP7
        have s08 := s7.trans s8
        have hR8 := hR.ext s08
        have memY : ∀ x ∈ ys.map (·.1), ∃ y ∈ ys, y.1 = x := fun x hx => by
          obtain ⟨y, hy, e⟩ := List.mem_map.mp hx
          exact ⟨y, hy, e⟩
        have hPO : PartsOk K H8 .lst P N (ys.map (·.1)) := by
          refine ⟨?_, fun x hx => ?_, ⟨_, hN8, List.length_map .., fun x hx => ?_⟩, fun x hx => ?_, ndx, by rw [List.length_map]; exact l1, by rw [List.length_map]; exact l6, fun z hz => ?_, .inl rfl⟩
          · rw [hP8, List.map_map]
            rfl
          · obtain ⟨y, hy, rfl⟩ := memY x hx
            exact hR8.pl y hy
          · obtain ⟨i, hi⟩ := List.mem_iff_getElem?.mp hx
            exact val_row (f := fun y => V.ref y.2.1) ndx hi
          · obtain ⟨y, hy, rfl⟩ := memY x hx
            obtain ⟨hr, hv⟩ := hrow y hy
            rw [zsY_of]
            exact ⟨hR8.ns y hy, hv, hr.2.2.2.2.2.1, by have := hr.2.2.2.2.2.2; omega⟩
          · rw [zsY_of] at hz
            obtain ⟨y, hy, rfl⟩ := List.mem_map.mp hz
            exact (hrow y hy).1.1
        refine ⟨_, rfl, rfl, rfl, fun g dx ng ndx' ne => ?_⟩
        have sM := same_make (o1 := .own g) (o2 := .ins (CG K) dx []) ng ndx'
        exact ⟨g, dx, P, N, .lst, ys.map (·.1), .str st, st, rfl, upd_same, hPO.ext sM, (by rw [zsY_of]; exact hst), .inl rfl, fun H9 dx9 tn dP dN x9 hpg nP nN => ⟨rfl, k H9 g dx9 tn dP dN (fun b o e => x9 b o (ne_of_none (s08 _ _ e) ng) (sM _ _ (s08 _ _ e))) hpg (none_of (s08.trans sM) nP) (none_of (s08.trans sM) nN)⟩⟩
end
end K36

set_option Elab.async false
set_option linter.all false
set_option pp.deepTerms.threshold 14
set_option pp.maxSteps 2500
set_option maxRecDepth 100000
set_option maxHeartbeats 2000000
namespace K36
open PySem PySem.Spec PyProof.Rows L2 Vf
section
variable {P : Program} {w : World} {K : PySem.W.Frag} {mg : Str → Option Value} {base : Heap}
theorem sc_write : FnScope ["program", "sampler", "nexts", "lines", "name"] ["program", "sampler"] (defScope s_write) := ⟨rfl, rfl, rfl, by decide +kernel, rfl, by decide +kernel, by decide +kernel⟩
-- slots: 0 program, 1 sampler, 2 nexts, 3 lines, 4 name
def spWt (K : PySem.W.Frag) : Sp := fun vs H Q _ => ∃ (g p : Addr) (xs : List PgE) (st : Str) (dx tn dP dN : Addr) (n i : Int) (f : V), vs = [.ref g, .ref p] ∧ PgA K H g xs st dx tn dP dN ∧ st ∈ zsOf xs ∧ (∀ x ∈ xs, RwOk x.2.2) ∧ SaA (CS K) H p n i f ∧ 1 ≤ n ∧ n ≤ 8 ∧ 0 ≤ i ∧ i ≤ n - 1 ∧ PhOk f n ∧
  ∀ H', Same H H' → Q (.str (pgT st (xs.map (·.2.2)) n i f)) H'
theorem ok_write {fd : FuncData} (F : FnD K ("write", none) "write" "write" s_write fd) (T : TTxt K mg) (M : GMeth K) (O_getitem : OkM P w K mg base (L2.CX P w) 4 "Program" "__getitem__" ["self", "at"] (spGet K)) (O_nexts : OkG P w K mg base CX0 1 "Program" "nexts" (spNxT K)) (O_start_line : OkF P w K mg base CX0 1 "start_line" ["start"] spSln)
    (O_place_line : OkF P w K mg base CX0 1 "place_line" ["place", "ways"] (spPln K)) (O_sampler_line : OkF P w K mg base CX0 1 "sampler_line" ["sampler"] (spSml K)) : OkF P w K mg base (L2.CX P w) 6 "write" ["program", "sampler"] (spWt K) := by
  refine okd F (F.ok sc_write (fun vs H Q E h => ?_) fun cdv A outer s H vs Q E hr h => ?_) fun _ _ _ _ _ _ us hl => match us, hl with | [_, _], _ => rfl
  · obtain ⟨g, p, xs, st, dx, tn, dP, dN, n, i, f, rfl, _⟩ := h
    rfl
  · obtain ⟨g, p, xs, st, dx, tn, dP, dN, n, i, f, rfl, hg, hst, hrow, hp, n1, n8, i0, i1, hf, k⟩ := h
    refine ⟨_, (pss_cons (ps_set (i := 2) sc_write.nd rfl (Or.inr rfl) (pe_propG (pv 0) T.c_Program O_nexts hr (by decide) rfl))
  (pss_cons (ps_set (i := 3) sc_write.nd rfl (Or.inl rfl) (pe_lst (pa_cons (c_fn O_start_line hr (by decide) T.g_start_line pass0 (pa_cons (pe_fld (pv 0) rfl) pa_nil)) pa_nil)))
  (pss_cons (ps_expr (pe_bm PySem.F.plainAttrs_list PySem.F.slot_list_extend PySem.F.type_list_extend mt_extend (pv 3) (pa_cons (pe_lc (own := [("name", 4)]) (g := gName 4) (tt := tYes) (by rfl) sc_write.nd (pi_tup (pe_fld (pv 0) rfl)) (blkOk_by (N := ["program", "sampler", "nexts", "lines", "name"]) (sc := defScope s_write) (by decide +kernel)) (fun _ _ _ _ _ => (pg_name (i := 4) sc_write.nd rfl (Or.inl rfl))) (fun _ _ _ _ _ => pts_nil) (fun _ _ _ _ _ => (c_fn O_place_line hr (by decide) T.g_place_line pass0 (pa_cons (pe_subO (pv 0) (pv 4) M.m_getitem M.f_getitem O_getitem hr (by decide) passL) (pa_cons (pe_dget (hu_of hr) (pv 2) (pv 4) (fun _ _ => rfl)) pa_nil))))) pa_nil)))
  (pss_cons (ps_expr (pe_bm PySem.F.plainAttrs_list PySem.F.slot_list_append PySem.F.type_list_append mt_append (pv 3) (pa_cons (c_fn O_sampler_line hr (by decide) T.g_sampler_line pass0 (pa_cons (pv 1) pa_nil)) pa_nil)))
  (pss_one (ps_ret (pe_m1 PySem.F.slot_str_join PySem.F.type_str_join mt_join pe_str (pv 3)))))))), ?_⟩
    have hlz : (zsOf xs).length = xs.length := List.length_map ..
    have hnst := hg.nm st hst
    refine ⟨_, rfl, g, dx, _, rfl, hg.hg, g, xs, st, dx, tn, dP, dN, rfl, hg, fun H1 N s1 nN hN => ?_⟩
    have hg1 := hg.ext s1
    have hp1 := hp.ext s1
    refine ⟨_, rfl, g, _, dx, _, _, rfl, hg1.hg, T.c_Program, T.nB, pgf_start .., st, rfl, (nm_free hnst).2.2.1, (by show 1 ≤ sizeLine; decide), fun L nL => ?_⟩
    have nL0 := none_of s1 nL
    have s2 := same_new (o := .lst [.str (stL st)]) nL
    have hL2 := upd_same (H := H1) (a := L) (o := .lst [.str (stL st)])
    have hg2 := hg1.ext s2
    have hp2 := hp1.ext s2
    have hN2 := s2 _ _ hN
    replace s2 := s1.trans s2
    generalize upd H1 L (.lst [.str (stL st)]) = H2 at s2 hL2 hg2 hp2 hN2 ⊢
    refine ⟨_, rfl, .inl ⟨rfl, _, SqL.of hL2⟩, _, rfl, g, _, dx, _, _, rfl, hg2.hg, T.c_Program, T.nA, pgf_names .., tn, rfl, ⟨_, SqT.of hg2.hn⟩, fun D nD => lc_it walk_tup (fun j H' => Same H2 H' ∧ H' D = some (.lst (((xs.take j).map fun x => plL x.2.2).map V.str))) ⟨same_new nD, upd_same⟩ (fun j H' _ h => SqT.of (h.1 _ _ hg2.hn)) ?_ ?_⟩
    · rintro j x H6 H' hj ⟨sg, hD⟩ ⟨rfl, hx⟩
      obtain ⟨y, hy, rfl⟩ := zsAt hx
      have hg6 := hg2.ext sg
      have hym := List.mem_of_getElem? hy
      rw [List.length_map, hlz] at hj
      refine ⟨rfl, _, rfl, _, rfl, g, dx, _, rfl, hg6.hg, g, _, xs, st, dx, tn, dP, dN, rfl, hg6, .inl ⟨j, y, hy, rfl, ?_⟩⟩
      refine ⟨_, rfl, _, rfl, N, _, rfl, dget_of (sg _ _ hN2) (val_row (f := fun y => V.ref y.2.1) hg.nd hy), y.1, y.2.1, y.2.2, rfl, hg6.pl y hym, (hg6.ns y hym).1, hrow y hym, fun H7 s7 => ⟨_, s7 _ _ hD, ?_, same_app (sg.trans s7) (Same.refl _) nD, ?_⟩⟩
      · rw [List.length_map, List.length_map, List.length_take]
        exact Nat.lt_of_le_of_lt (show _ ≤ 1000 by have := hg.l6; omega) (by decide)
      · rw [upd_same, List.take_add_one, hy, List.map_append, List.map_append]
        rfl
    · rintro H6 ⟨s6, hD⟩
      rw [List.length_map, hlz, List.take_length] at hD
      refine ⟨L, D, _, _, rfl, rfl, s6 _ _ hL2, hD, ?_, ?_⟩
      · rw [List.length_map, List.length_map]
        exact Nat.le_trans (show 1 + xs.length ≤ 1000 by have := hg.l6; omega) (by decide)
      have nLp : p ≠ L := by
        obtain ⟨d0, e⟩ := hp1
        exact ne_of_none e nL
      have hL7 := upd_same (H := H6) (a := L) (o := .lst ([.str (stL st)] ++ (xs.map fun x => plL x.2.2).map V.str))
      have hp7 : SaA (CS K) (upd H6 L (.lst ([.str (stL st)] ++ (xs.map fun x => plL x.2.2).map V.str))) p n i f := by
        obtain ⟨d0, e⟩ := hp2
        exact ⟨d0, by rw [upd_ne nLp]; exact s6 _ _ e⟩
      have s7 : Same H (upd H6 L (.lst ([.str (stL st)] ++ (xs.map fun x => plL x.2.2).map V.str))) := same_app s2 s6 nL0
      generalize upd H6 L (.lst ([.str (stL st)] ++ (xs.map fun x => plL x.2.2).map V.str)) = H7 at hL7 hp7 s7 ⊢
      refine ⟨_, rfl, .inl ⟨rfl, _, SqL.of hL7⟩, _, rfl, p, n, i, f, rfl, hp7, n1, n8, i0, i1, hf, L, _, _, rfl, rfl, hL7, ?_, ?_⟩
      · rw [List.length_append, List.length_map, List.length_map]
        exact Nat.lt_of_le_of_lt (show 1 + xs.length ≤ 1000 by have := hg.l6; omega) (by decide)
      have e9 : ([.str (stL st)] ++ (xs.map fun x => plL x.2.2).map V.str ++ [V.str (smL n i f)] : List V) = (stL st :: ((xs.map (·.2.2)).map plL ++ [smL n i f])).map V.str := by
        rw [List.map_cons, List.map_append, List.map_map (f := fun x : PgE => x.2.2)]
        rfl
      rw [e9]
      have hl := pgT_len (rs := xs.map (·.2.2)) hnst (fun r hr => by obtain ⟨x, hx, rfl⟩ := List.mem_map.mp hr; exact hrow x hx) (by rw [List.length_map]; exact hg.l6) n1 n8 i0 i1 hf
      refine ⟨⟨_, rfl⟩, _, rfl, "\n", L, _, rfl, rfl, .inl (SqL.of upd_same), ?_, k _ (same_app s7 (Same.refl _) nL0)⟩
      have e1 : ("\n" : Str).length = 1 := by decide +kernel
      have hl1 := hl.1
      have l6 := hg.l6
      rw [e1, List.length_cons, List.length_append, List.length_map, List.length_map, List.length_singleton]
      omega
theorem nodup_le1 {α : Type} [DecidableEq α] : ∀ {l u : List α}, l.Nodup → (∀ x ∈ l, x ∈ u) → l.length ≤ u.length
  | [], _, _, _ => Nat.zero_le _
  | a :: l, u, nd, h => by
    rw [List.nodup_cons] at nd
    have ha := h a (List.mem_cons_self ..)
    have h2 : ∀ x ∈ l, x ∈ u.erase a := fun x hx => by
      have hne : x ≠ a := fun e => nd.1 (e ▸ hx)
      exact (List.mem_erase_of_ne hne).mpr (h x (List.mem_cons_of_mem _ hx))
    have := nodup_le1 nd.2 h2
    rw [List.length_erase_of_mem ha] at this
    have hp : 0 < u.length := List.length_pos_of_mem ha
    rw [List.length_cons]
    omega
/-- the names that are known behind these rows -/
def nmL (st : Str) (rs : List Rw) : List Str := rs.foldl (fun acc r => wN acc (r.z :: r.ns)) [st]
theorem nmL_add {st : Str} {rs : List Rw} {r : Rw} : nmL st (rs ++ [r]) = wN (nmL st rs) (r.z :: r.ns) := by
  unfold nmL
  rw [List.foldl_append]
  rfl
theorem wNs : ∀ (rs : List Rw) (acc : List Str), acc.Nodup → (rs.foldl (fun acc r => wN acc (r.z :: r.ns)) acc).Nodup ∧ ∀ v, v ∈ rs.foldl (fun acc r => wN acc (r.z :: r.ns)) acc ↔ v ∈ acc ∨ ∃ r ∈ rs, v = r.z ∨ v ∈ r.ns
  | [], acc, h => ⟨h, fun v => by simp⟩
  | r :: rs, acc, h => by
    obtain ⟨h1, h2⟩ := wNs rs (wN acc (r.z :: r.ns)) (wN_nd h)
    refine ⟨h1, fun v => (h2 v).trans ?_⟩
    rw [wN_mem, List.mem_cons]
    constructor
    · rintro ((h | h | h) | ⟨q, hq, h⟩)
      · exact .inl h
      · exact .inr ⟨r, List.mem_cons_self, .inl h⟩
      · exact .inr ⟨r, List.mem_cons_self, .inr h⟩
      · exact .inr ⟨q, List.mem_cons_of_mem _ hq, h⟩
    · rintro (h | ⟨q, hq, h⟩)
      · exact .inl (.inl h)
      · rcases List.mem_cons.mp hq with rfl | hq
        · exact .inl (.inr h)
        · exact .inr ⟨q, hq, h⟩
theorem nmL_nd (st : Str) (rs : List Rw) : (nmL st rs).Nodup := (wNs rs [st] (by simp)).1
theorem nmL_in {st : Str} {rs qs : List Rw} (hst : st ∈ rs.map (·.z)) (hns : ∀ r ∈ rs, ∀ v ∈ r.ns, v ∈ rs.map (·.z)) (hq : ∀ r ∈ qs, r ∈ rs) : (nmL st qs).length ≤ rs.length := by
  rw [← List.length_map (f := fun r : Rw => r.z)]
  refine nodup_le1 (nmL_nd st qs) fun v hv => ?_
  rcases ((wNs qs [st] (by simp)).2 v).mp hv with h | ⟨r, hr, rfl | h⟩
  · rw [List.mem_singleton.mp h]
    exact hst
  · exact List.mem_map_of_mem (hq r hr)
  · exact hns r (hq r hr) v h
theorem nmL_all {st : Str} {rs : List Rw} (nd : (rs.map (·.z)).Nodup) (hst : st ∈ rs.map (·.z)) (hns : ∀ r ∈ rs, ∀ v ∈ r.ns, v ∈ rs.map (·.z)) : (nmL st rs).length = rs.length := by
  refine Nat.le_antisymm (nmL_in hst hns fun r h => h) ?_
  rw [← List.length_map (f := fun r : Rw => r.z)]
  refine nodup_le1 nd fun v hv => ?_
  obtain ⟨r, hr, rfl⟩ := List.mem_map.mp hv
  exact ((wNs rs [st] (by simp)).2 _).mpr (.inr ⟨r, hr, .inl rfl⟩)
theorem RdA.put {K : PySem.W.Frag} {H : Hp} {R : Addr} {ys : List PgT} {x : PgE} {t : Addr} (h : RdA K H R ys) (ht : H t = some (.tup [.ref x.1, .ref x.2.1])) (hp : PlE K H x) (hq : H x.2.1 = some (.tup (x.2.2.ns.map V.str))) (hz : x.2.2.z ∉ zsY ys) :
    RdA K (upd H R (.dK (putK (kvY ys) (Sum.inr x.2.2.z) (.ref t)))) R (ys ++ [(x, t)]) := by
  have ap : ∀ {p : Addr} {o : HO}, H p = some o → (∀ kvs, o ≠ .dK kvs) → ∀ u, (upd H R u) p = some o := fun {p o} e hn u => by
    rw [upd_ne fun z => ?_]
    · exact e
    · rw [z, h.hD] at e
      exact hn _ (Option.some.inj e).symm
  refine ⟨by rw [upd_same, putY (y := (x, t)) hz], fun y hy => ?_, fun y hy => ?_, fun y hy => ?_⟩
  · refine ap (o := .tup [.ref y.1.1, .ref y.1.2.1]) ?_ (fun _ z => nomatch z) _
    rcases List.mem_append.mp hy with hy | hy
    · exact h.tp y hy
    · rw [List.mem_singleton.mp hy]
      exact ht
  · have : PlE K H y.1 := by
      rcases List.mem_append.mp hy with hy | hy
      · exact h.pl y hy
      · rw [List.mem_singleton.mp hy]
        exact hp
    obtain ⟨d0, e⟩ := this
    exact ⟨d0, ap e (fun _ z => nomatch z) _⟩
  · refine ap (o := .tup (y.1.2.2.ns.map V.str)) ?_ (fun _ z => nomatch z) _
    rcases List.mem_append.mp hy with hy | hy
    · exact h.ns y hy
    · rw [List.mem_singleton.mp hy]
      exact hq
theorem sc_read : FnScope ["text", "lines", "start", "rows", "names", "number", "line", "sampler", "row"] ["text"] (defScope s_read) := ⟨rfl, rfl, rfl, by decide +kernel, rfl, by decide +kernel, by decide +kernel⟩
-- slots: 0 text, 1 lines, 2 start, 3 rows, 4 names, 5 number, 6 line, 7 sampler, 8 row
def spRdP (K : PySem.W.Frag) : Sp := fun vs H Q _ => ∃ (st : Str) (rs : List Rw) (n i : Int) (f : V), vs = [.str (pgT st rs n i f)] ∧ nmB st = true ∧ (∀ r ∈ rs, RwOk r) ∧ (rs.map (·.z)).Nodup ∧ 1 ≤ rs.length ∧ rs.length ≤ 6 ∧ st ∈ rs.map (·.z) ∧ (∀ r ∈ rs, ∀ v ∈ r.ns, v ∈ rs.map (·.z)) ∧ 1 ≤ n ∧ n ≤ 8 ∧ 0 ≤ i ∧ i ≤ n - 1 ∧ PhOk f n ∧
  ∀ H' t g p xs dx tn dP dN, Same H H' → H' t = some (.tup [.ref g, .ref p]) → PgA K H' g xs st dx tn dP dN → xs.map (·.2.2) = rs → SaA (CS K) H' p n i f → H dP = none → H dN = none → Q (.ref t) H'
theorem ok_read {fd : FuncData} (F : FnD K ("read", none) "read" "read" s_read fd) (T : TTxt K mg) (O_lines_of : OkF P w K mg base (L2.CX P w) 3 "lines_of" ["text", "most"] (spLno K)) (O_start_told : OkF P w K mg base CX0 2 "start_told" ["line"] spSto) (O_sampler_told : OkF P w K mg base CX0 6 "sampler_told" ["line"] (spSmt K)) (O_check_end : OkF P w K mg base (L2.CX P w) 3 "check_end" ["lines", "number"] spCke)
    (O_place_told : OkF P w K mg base CX0 6 "place_told" ["line"] (spPlt K)) (O_program_with : OkF P w K mg base (L2.CX P w) 7 "program_with" ["rows", "start"] (spPgw K)) (O_with_names : OkF P w K mg base CX0 1 "with_names" ["names", "more"] spWn) (O_BadText_init : OkD P w K mg base CX0 1 ("BadText", some "__init__") ["self", "line"] [] (spExI K (He.ga K "BadText") "line")) : OkF P w K mg base (L2.CX P w) 8 "read" ["text"] (spRdP K) := by
  refine okd F (F.ok sc_read (fun vs H Q E h => ?_) fun cdv A outer s H vs Q E hr h => ?_) fun _ _ _ _ _ _ us hl => match us, hl with | [_], _ => rfl
  · obtain ⟨st, rs, n, i, f, rfl, _⟩ := h
    rfl
  · obtain ⟨st, rs, n, i, f, rfl, hnm, hrow, nd, l1, l6, hst, hns, n1, n8, i0, i1, hf, k⟩ := h
    refine ⟨_, (pss_cons (ps_set (i := 1) sc_read.nd rfl (Or.inl rfl) (c_fn O_lines_of hr (by decide) T.g_lines_of passL (pa_cons (pv 0) (pa_cons (c_gint T.i_MOST_TEXT) pa_nil))))
  (pss_cons (ps_set (i := 2) sc_read.nd rfl (Or.inl rfl) (c_fn O_start_told hr (by decide) T.g_start_told pass0 (pa_cons (pe_ix ix_list (pv 1) pe_int (fun _ _ => rfl)) pa_nil)))
  (pss_cons (ps_if (pt_cmpR op_isN (pv 2) pe_non (nomark _)) (pss_one (c_raise T.x_BadText O_BadText_init hr (by decide) T.g_BadText (takes_of rfl rfl rfl rfl) (pa_cons pe_int pa_nil)))
  pss_nil)
  (pss_cons (ps_set (i := 3) sc_read.nd rfl (Or.inl rfl) pe_dnewK)
  (pss_cons (ps_set (i := 4) sc_read.nd rfl (Or.inl rfl) (pe_lst (pa_cons (pv 2) pa_nil)))
  (pss_cons (ps_for (passes_of rfl) rfl (pi_enumS (by rfl) T.z_enumerate (pa_cons (pe_slice sl_list (pv 1) (po_some pe_int) po_none) pa_nil) (pk_cons pe_int pk_nil)) (pg_tup rfl (pgs_cons (pg_name (i := 5) sc_read.nd rfl (Or.inl rfl)) (pgs_cons (pg_name (i := 6) sc_read.nd rfl (Or.inl rfl)) pgs_nil)))
  (pss_cons (ps_set (i := 7) sc_read.nd rfl (Or.inl rfl) (c_fn O_sampler_told hr (by decide) T.g_sampler_told pass0 (pa_cons (pv 6) pa_nil)))
  (pss_cons (ps_if (PW.pt (pw_andB (pt_cmpR op_notN (pv 7) pe_non (nomark _)) (pw_and1 (pt_cmpR op_eq (pe_callB call_lenD (by rfl) T.z_len (by decide +kernel) (pa_cons (pv 3) pa_nil)) (pe_callB (id := "len") call_len_seq (by rfl) T.z_len (by decide +kernel) (pa_cons (pv 4) pa_nil)) (nomark _))))) (pss_cons (ps_expr (c_fn O_check_end hr (by decide) T.g_check_end passL (pa_cons (pv 1) (pa_cons (pv 5) pa_nil))))
  (pss_one (ps_ret (pe_tup (pa_cons (c_fn O_program_with hr (by decide) T.g_program_with passL (pa_cons (pv 3) (pa_cons (pv 2) pa_nil))) (pa_cons (pv 7) pa_nil))))))
  pss_nil)
  (pss_cons (ps_set (i := 8) sc_read.nd rfl (Or.inl rfl) (c_fn O_place_told hr (by decide) T.g_place_told pass0 (pa_cons (pv 6) pa_nil)))
  (pss_cons (ps_if (PW.pt (pw_orB (pt_cmpR op_isN (pv 8) pe_non (nomark _)) (pw_or1 (pt_cmp (pc_din (hu_of hr) (pe_fld (pe_ix ix_tup (pv 8) pe_int (fun _ _ => rfl)) rfl) (pv 3)) rfl)))) (pss_one (c_raise T.x_BadText O_BadText_init hr (by decide) T.g_BadText (takes_of rfl rfl rfl rfl) (pa_cons (pv 5) pa_nil)))
  pss_nil)
  (pss_cons (ps_dput (hu_of hr) (pv 3) (pe_fld (pe_ix ix_tup (pv 8) pe_int (fun _ _ => rfl)) rfl) (pv 8) rfl)
  (pss_cons (ps_set (i := 4) sc_read.nd rfl (Or.inl rfl) (c_fn O_with_names hr (by decide) T.g_with_names pass0 (pa_cons (pv 4) (pa_cons (pe_op op_catA (pe_tup (pa_cons (pe_fld (pe_ix ix_tup (pv 8) pe_int (fun _ _ => rfl)) rfl) pa_nil)) (pe_ix ix_tup (pv 8) pe_int (fun _ _ => rfl))) pa_nil))))
  (pss_one (ps_if (pt_cmpR op_gt (pe_callB (id := "len") call_len_seq (by rfl) T.z_len (by decide +kernel) (pa_cons (pv 4) pa_nil)) (c_gint T.i_MOST_PLACES) (nomark _)) (pss_one (c_raise T.x_BadText O_BadText_init hr (by decide) T.g_BadText (takes_of rfl rfl rfl rfl) (pa_cons (pv 5) pa_nil)))
  pss_nil)))))))))
  (pss_one (c_raise T.x_BadText O_BadText_init hr (by decide) T.g_BadText (takes_of rfl rfl rfl rfl) (pa_cons (pe_op op_add (pe_callB (id := "len") call_len_seq (by rfl) T.z_len (by decide +kernel) (pa_cons (pv 1) pa_nil)) pe_int) pa_nil))))))))), ?_⟩
    have hsp := pgT_split hnm hrow n1 n8 i0 i1 hf
    obtain ⟨_, hlen⟩ := pgT_len hnm hrow l6 n1 n8 i0 i1 hf
    refine ⟨_, rfl, pgT st rs n i f, 1000, rfl, Nat.le_trans (Nat.add_le_add_right hlen 2) (by decide), by omega, fun H1 LI sm1 nLI hLI => ?_⟩
    rw [hsp] at hLI
    refine ⟨_, rfl, LI, _, 0, .str (stL st), rfl, rfl, SqL.of hLI, atI0, st, rfl, hnm, fun H2 sm2 => ?_⟩
    refine ⟨_, rfl, rfl, false, rfl, iteF fun R nR => ?_⟩
    have hLI2 := sm2 _ _ hLI
    replace sm2 := sm1.trans sm2
    have nR0 := none_of sm2 nR
    have nLR : LI ≠ R := ne_of_none hLI2 nR
    have hR3 : RdA K (upd H2 R (.dK [])) R [] := ⟨upd_same, (fun _ h => nomatch h), (fun _ h => nomatch h), fun _ h => nomatch h⟩
    have sm3 := sm2.trans (same_new (o := .dK []) nR)
    have hLI3 := same_new (o := .dK []) nR _ _ hLI2
    generalize upd H2 R (.dK []) = H3 at hR3 sm3 hLI3 ⊢
    clear sm1 sm2 hLI hLI2 nR nLI
    refine ⟨_, rfl, (by show 1 ≤ sizeLine; decide), fun F0 nF0 => ?_⟩
    have nRF0 : R ≠ F0 := ne_of_none hR3.hD nF0
    have s4 := same_new (o := .lst [.str st]) nF0
    have hF4 := upd_same (H := H3) (a := F0) (o := .lst [.str st])
    have hR4 := hR3.ext s4
    have hLI4 := s4 _ _ hLI3
    have sm4 := sm3.trans s4
    generalize upd H3 F0 (.lst [.str st]) = H4 at s4 hF4 hR4 hLI4 sm4 ⊢
    clear sm3 hLI3 hR3 nF0 s4 H3 H1
    refine ⟨_, rfl, 1, rfl, LI, _, rfl, SqL.of hLI4, fun PL nPL => ?_⟩
    have ecut : cutV (List.map V.str (stL st :: (rs.map plL ++ [smL n i f]))) (some 1) none = (rs.map plL ++ [smL n i f]).map V.str := by
      have := cutV_frI (xs := List.map V.str (stL st :: (rs.map plL ++ [smL n i f]))) (r := 1) (by decide) (by rw [List.length_map, List.length_cons]; exact Nat.le_add_left 1 _)
      exact this
    rw [ecut]
    have s5 := same_new (o := .lst ((rs.map plL ++ [smL n i f]).map V.str)) nPL
    have hPL := upd_same (H := H4) (a := PL) (o := .lst ((rs.map plL ++ [smL n i f]).map V.str))
    have nPR : PL ≠ R := (ne_of_none hR4.hD nPL).symm
    have hLI5 := s5 _ _ hLI4
    have hR5 := hR4.ext s5
    have hF5 := s5 _ _ hF4
    have sm5 := sm4.trans s5
    show ∃ a xs c, _
    generalize upd H4 PL (.lst ((rs.map plL ++ [smL n i f]).map V.str)) = H5 at sm5 hPL hLI5 hR5 hF5 ⊢
    clear s5 hLI4 hR4 hF4 sm4 nPL H4
    refine ⟨PL, _, 2, rfl, rfl, by decide, by decide, SqL.of hPL, for_it walk_enumS (fun j σ H' => j ≤ rs.length ∧ SameX R H5 H' ∧ ∃ (ys : List PgT) (F : Addr), RdA K H' R ys ∧ ys.map (·.1.2.2) = rs.take j ∧ H' F = some (.lst ((nmL st (rs.take j)).map V.str)) ∧ F ≠ R ∧ ∃ v5 v6 v7 v8 : Option V, σ = [some (.str (pgT st rs n i f)), some (.ref LI), some (.str st), some (.ref R), some (.ref F), v5, v6, v7, v8]) ⟨Nat.zero_le _, fun _ _ _ e => e, [], F0, hR5, rfl, hF5, nRF0.symm, none, none, none, none, rfl⟩ (fun j σ H' _ h => SqL.of (h.2.1 _ _ nPR hPL)) ?_ ?_⟩
    · rintro j x σ H6 H7 hj ⟨hjs, sx, ys, F, hR6, hys, hF6, nFR, v5, v6, v7, v8, rfl⟩ hy
      obtain ⟨T', x', y', rfl, nT', rfl, hx', hz'⟩ := hy
      cases (Option.some.inj hx')
      replace hz' : ((rs.map plL ++ [smL n i f]).map V.str)[j]? = some y' := hz'
      have sT0 := same_new (o := .tup [.int (2 + (j : Nat)), y']) nT'
      have hT := upd_same (H := H6) (a := T') (o := .tup [.int (2 + (j : Nat)), y'])
      have sx7 : SameX R H5 (upd H6 T' (.tup [.int (2 + (j : Nat)), y'])) := sx.trans (same_x sT0)
      have hR7 := hR6.ext sT0
      have hF7 := sT0 _ _ hF6
      generalize upd H6 T' (.tup [.int (2 + (j : Nat)), y']) = H7 at hT sx7 hR7 hF7 ⊢
      clear sT0 nT' sx hR6 hF6 hx' H6
      refine ⟨T', _, rfl, SqT.of hT, rfl, _, _, rfl, _, _, rfl, rfl, ?_⟩
      show tSeq _ _ _ [some (.str (pgT st rs n i f)), some (.ref LI), some (.str st), some (.ref R), some (.ref F), some (.int (2 + (j : Nat))), some y', v7, v8] H7
      have hsame : ∀ {X}, SameX R H5 X → Same H X := fun sx p o e => sx _ _ (ne_of_none e nR0) (sm5 _ _ e)
      by_cases hj2 : j < rs.length
      · have hsj : rs[j]? = some rs[j] := List.getElem?_eq_getElem hj2
        generalize rs[j] = r at hsj
        have hrm := List.mem_of_getElem? hsj
        have hok := hrow r hrm
        obtain rfl : y' = .str (plL r) := by
          rw [List.getElem?_map, List.getElem?_append_left (by rw [List.length_map]; exact hj2), List.getElem?_map, hsj] at hz'
          exact (Option.some.inj hz').symm
        refine ⟨_, rfl, plL r, rfl, .inl ⟨r, rfl, hok, fun H8 s8 => ?_⟩⟩
        refine ⟨_, rfl, rfl, false, rfl, false, (· = H8), (fun c => Bool.noConfusion c), fun _ => rfl, fun H9 e => ?_⟩
        subst e
        refine iteF ?_
        refine ⟨_, rfl, r, rfl, hok, fun H10 t p q s10 ht hp hq => ?_⟩
        have s710 := s8.trans s10
        have hR10 := hR7.ext s710
        have hF10 := s710 _ _ hF7
        have sx10 := sx7.trans (same_x s710)
        obtain ⟨dxp, hp0⟩ := id hp
        have ezs : zsY ys = (rs.take j).map (·.z) := by
          rw [← hys, List.map_map]
          rfl
        have hyl : ys.length = j := by
          have := congrArg List.length hys
          rw [List.length_map, List.length_take] at this
          omega
        have hzn : r.z ∉ zsY ys := by
          rw [ezs]
          intro hm
          have h1 : ((rs.take (j + 1)).map (·.z)).Nodup := by
            rw [List.map_take]
            exact nd.sublist (List.take_sublist _ _)
          rw [List.take_add_one, hsj, List.map_append] at h1
          exact (List.nodup_append.mp h1).2.2 _ hm _ (by simp) rfl
        refine ⟨_, rfl, rfl, false, rfl, false, (· = H10), fun _ => ⟨_, rfl, t, _, 0, .ref p, rfl, rfl, SqT.of ht, atI0, p, _, dxp, _, _, rfl, hp0, T.c_Place, T.nN, plf_name .., _, rfl, R, none, rfl, .inl ⟨_, Sum.inr r.z, .inl hR10.hD, rfl, (missY hzn).symm⟩, false, rfl, rfl, rfl⟩, (fun c => Bool.noConfusion c), fun H11 e => ?_⟩
        subst e
        refine iteF ?_
        refine ⟨_, rfl, _, rfl, _, rfl, t, _, 0, .ref p, rfl, rfl, SqT.of ht, atI0, p, _, dxp, _, _, rfl, hp0, T.c_Place, T.nN, plf_name .., R, _, rfl, .inl ⟨_, Sum.inr r.z, hR10.hD, rfl, ?_, rfl⟩, ?_⟩
        · unfold kvY
          rw [List.length_map]
          exact Nat.lt_of_le_of_lt (show ys.length ≤ 1000 by omega) (by decide)
        have hR12 := hR10.put (x := (p, q, r)) (t := t) ht hp hq hzn
        have ntR : t ≠ R := fun e => by rw [e, hR10.hD] at ht; cases ht
        have nqR : q ≠ R := fun e => by rw [e, hR10.hD] at hq; cases hq
        have npR : p ≠ R := fun e => by rw [e, hR10.hD] at hp0; cases hp0
        have ht12 : (upd H11 R (.dK (putK (kvY ys) (Sum.inr r.z) (.ref t)))) t = some (.tup [.ref p, .ref q]) := by rw [upd_ne ntR]; exact ht
        have hq12 : (upd H11 R (.dK (putK (kvY ys) (Sum.inr r.z) (.ref t)))) q = some (.tup (r.ns.map V.str)) := by rw [upd_ne nqR]; exact hq
        have hp12 : (upd H11 R (.dK (putK (kvY ys) (Sum.inr r.z) (.ref t)))) p = some (.ins (CP K) dxp (plf r.z r.l r.m r.b)) := by rw [upd_ne npR]; exact hp0
        have hF12 : (upd H11 R (.dK (putK (kvY ys) (Sum.inr r.z) (.ref t)))) F = some (.lst ((nmL st (rs.take j)).map V.str)) := by rw [upd_ne nFR]; exact hF10
        have sx12 : SameX R H5 (upd H11 R (.dK (putK (kvY ys) (Sum.inr r.z) (.ref t)))) := sx10.trans SameX.upd
        generalize upd H11 R (.dK (putK (kvY ys) (Sum.inr r.z) (.ref t))) = H12 at hR12 ht12 hq12 hp12 hF12 sx12 ⊢
        refine ⟨_, rfl, _, rfl, t, _, 0, .ref p, rfl, rfl, SqT.of ht12, atI0, p, _, dxp, _, _, rfl, hp12, T.c_Place, T.nN, plf_name .., (by show 1 ≤ sizeLine; decide), fun u1 nu1 => ?_⟩
        have s13 := same_new (o := .tup [.str r.z]) nu1
        have hu13 := upd_same (H := H12) (a := u1) (o := .tup [.str r.z])
        have ht13 := s13 _ _ ht12
        have hq13 := s13 _ _ hq12
        have hF13 := s13 _ _ hF12
        have hR13 := hR12.ext s13
        have sx13 := sx12.trans (same_x s13)
        generalize upd H12 u1 (.tup [.str r.z]) = H13 at hu13 ht13 hq13 hF13 hR13 sx13 ⊢
        refine ⟨_, rfl, t, _, 1, .ref q, rfl, rfl, SqT.of ht13, atI1, ?_⟩
        have et : rs.take (j + 1) = rs.take j ++ [r] := by rw [List.take_add_one, hsj]; rfl
        have hlw : (nmL st (rs.take j)).length + (r.z :: r.ns).length ≤ 1000 := by
          have h1 := nmL_in (qs := rs.take j) hst hns (fun r h => List.mem_of_mem_take h)
          have h2 := hok.2.2.2.2.2.2
          rw [List.length_cons]
          omega
        refine ⟨u1, q, [.str r.z], r.ns.map V.str, rfl, rfl, SqT.of hu13, SqT.of hq13, ?_, (fun e => by cases e), fun _ e => ?_, fun _ _ u2 nu2 => ?_⟩
        · rw [List.length_map]
          exact Nat.le_trans (show 1 + r.ns.length ≤ 1000 by have := hok.2.2.2.2.2.2; omega) (by decide)
        · have hu : H13 u1 = some (.tup ((r.z :: r.ns).map V.str)) := by
            rw [hu13, List.map_cons, e]
          refine ⟨F, u1, nmL st (rs.take j), r.z :: r.ns, rfl, hF13, hu, hlw, fun H14 F2 s14 nF2 hF2 => ?_⟩
          have nF2R : F2 ≠ R := (ne_of_none hR13.hD nF2).symm
          rw [← nmL_add, ← et] at hF2
          refine ⟨_, rfl, F2, _, rfl, .inl (SqL.of hF2), _, _, rfl, rfl, _, rfl, ?_⟩
          rw [List.length_map, decide_eq_false (show ¬ (6 : Int) < ((nmL st (rs.take (j + 1))).length : Int) by have := nmL_in (qs := rs.take (j + 1)) hst hns (fun r h => List.mem_of_mem_take h); omega)]
          exact iteF ⟨hj2, sx13.trans (same_x s14), ys ++ [((p, q, r), t)], F2, hR13.ext s14, by rw [List.map_append, hys, et]; rfl, hF2, nF2R, _, _, _, _, rfl⟩
        · have s15 := same_new (o := .tup ([.str r.z] ++ r.ns.map V.str)) nu2
          have hu : (upd H13 u2 (.tup ([.str r.z] ++ r.ns.map V.str))) u2 = some (.tup ((r.z :: r.ns).map V.str)) := by
            rw [upd_same, List.map_cons]
            rfl
          have hF15 := s15 _ _ hF13
          have hR15 := hR13.ext s15
          have sx15 := sx13.trans (same_x s15)
          generalize upd H13 u2 (.tup ([.str r.z] ++ r.ns.map V.str)) = H15 at hu hF15 hR15 sx15 ⊢
          refine ⟨F, u2, nmL st (rs.take j), r.z :: r.ns, rfl, hF15, hu, hlw, fun H14 F2 s14 nF2 hF2 => ?_⟩
          have nF2R : F2 ≠ R := (ne_of_none hR15.hD nF2).symm
          rw [← nmL_add, ← et] at hF2
          refine ⟨_, rfl, F2, _, rfl, .inl (SqL.of hF2), _, _, rfl, rfl, _, rfl, ?_⟩
          rw [List.length_map, decide_eq_false (show ¬ (6 : Int) < ((nmL st (rs.take (j + 1))).length : Int) by have := nmL_in (qs := rs.take (j + 1)) hst hns (fun r h => List.mem_of_mem_take h); omega)]
          exact iteF ⟨hj2, sx15.trans (same_x s14), ys ++ [((p, q, r), t)], F2, hR15.ext s14, by rw [List.map_append, hys, et]; rfl, hF2, nF2R, _, _, _, _, rfl⟩
      · obtain rfl : j = rs.length := by omega
        obtain rfl : y' = .str (smL n i f) := by
          rw [List.getElem?_map, List.getElem?_append_right (by rw [List.length_map]; exact Nat.le_refl _), List.length_map, Nat.sub_self] at hz'
          exact (Option.some.inj hz').symm
        rw [List.take_length] at hys hF7
        have hyl : ys.length = rs.length := by
          have := congrArg List.length hys
          rw [List.length_map] at this
          exact this
        have ezs : zsY ys = rs.map (·.z) := by
          rw [← hys, List.map_map]
          rfl
        refine ⟨_, rfl, smL n i f, rfl, .inr ⟨n, i, f, rfl, n1, n8, i0, i1, hf, fun H8 p s8 hp => ?_⟩⟩
        have hR8 := hR7.ext s8
        have hF8 := s8 _ _ hF7
        have hcnt : decide (V.int ((kvY ys).length : Int) = .int (((nmL st rs).map V.str).length : Int)) = true := decide_eq_true (by
          unfold kvY
          rw [List.length_map, List.length_map, nmL_all nd hst hns, hyl])
        refine ⟨_, rfl, rfl, true, rfl, true, (· = H8), fun _ => ⟨_, rfl, R, _, rfl, hR8.hD, _, rfl, F, _, rfl, .inl (SqL.of hF8), rfl, _, rfl, hcnt, rfl⟩, (fun c => Bool.noConfusion c), fun H9 e => ?_⟩
        subst e
        have sx9 := sx7.trans (same_x s8)
        refine iteT ⟨_, rfl, _, rfl, LI, _, 2 + (rs.length : Int), rfl, sx9 _ _ nLR hLI5, ?_, ?_⟩
        · rw [List.length_map, List.length_cons, List.length_append, List.length_map, List.length_singleton]
          omega
        refine ⟨_, rfl, _, rfl, R, ys, st, rfl, hR8, by rw [ezs]; exact nd, by omega, by omega, by rw [ezs]; exact hst, fun y hy => ?_, fun H10 g dx tn dP dN s10 hg nP nN => ?_⟩
        · have hm : y.1.2.2 ∈ rs := by
            rw [← hys]
            exact List.mem_map_of_mem hy
          rw [ezs]
          exact ⟨hrow _ hm, hns _ hm⟩
        · refine ⟨_, rfl, (by show 2 ≤ sizeLine; decide), fun t nt => ?_⟩
          have s11 := same_new (o := .tup [.ref g, .ref p]) nt
          exact k _ t g p (ys.map (·.1)) dx tn dP dN ((hsame sx9).trans (s10.trans s11)) upd_same (hg.ext s11) (by rw [List.map_map]; exact hys) ((hp.ext s10).ext s11) (none_of (hsame sx9) nP) (none_of (hsame sx9) nN)
    · rintro σ H6 ⟨hjs, _⟩
      exact absurd hjs (by rw [List.length_map, List.length_append, List.length_map]; simp)
end
end K36

set_option Elab.async false
set_option linter.all false
set_option pp.deepTerms.threshold 14
set_option pp.maxSteps 2500
set_option maxRecDepth 100000
set_option maxHeartbeats 2000000
namespace K36
open PySem PySem.Spec PyProof.Rows L2 Vf
section
variable {P : Program} {w : World} {K : PySem.W.Frag} {mg : Str → Option Value} {base : Heap}
structure Txt (K : PySem.W.Frag) (mg : Str → Option Value) : Prop extends TTxt K mg where
  z_range : mg "range" = none
  g_law_cell : mg "_law_cell" = some (.ref (He.ga K "_law_cell"))
  g_law_take : mg "_law_take" = some (.ref (He.ga K "_law_take"))
  g_law_name : mg "_law_name" = some (.ref (He.ga K "_law_name"))
  g_law_rows : mg "_law_rows" = some (.ref (He.ga K "_law_rows"))
  g_law_nexts : mg "_law_nexts" = some (.ref (He.ga K "_law_nexts"))
  g_law_program : mg "_law_program" = some (.ref (He.ga K "_law_program"))
  g_law_is_integer : mg "_law_is_integer" = some (.ref (He.ga K "_law_is_integer"))
  g_law_row : mg "_law_row" = some (.ref (He.ga K "_law_row"))
  g_law_spec : mg "_law_spec" = some (.ref (He.ga K "_law_spec"))
  g_law_sampler : mg "_law_sampler" = some (.ref (He.ga K "_law_sampler"))
  g_law_changed : mg "_law_changed" = some (.ref (He.ga K "_law_changed"))
  g_law_same : mg "_law_same" = some (.ref (He.ga K "_law_same"))
theorem sc_law_take : FnScope ["_law_draw", "_law_size", "_law_taken"] ["_law_draw", "_law_size"] (defScope s_law_take) := ⟨rfl, rfl, rfl, by decide +kernel, rfl, by decide +kernel, by decide +kernel⟩
-- slots: 0 _law_draw, 1 _law_size, 2 _law_taken
theorem ok_law_take {fd : FuncData} (F : FnD K ("_law_take", none) "_law_take" "_law_take" s_law_take fd) (T : Txt K mg) : OkF P w K mg base CX0 1 "_law_take" ["_law_draw", "_law_size"] spTake := by
  refine okd F (F.ok sc_law_take (fun vs H Q E h => ?_) fun cdv A outer s H vs Q E hr h => ?_) fun _ _ _ _ _ _ us hl => match us, hl with | [_, _], _ => rfl
  · obtain ⟨d, n, s, rfl, _⟩ := h
    rfl
  · obtain ⟨d, n, s, rfl, hd, s0, s1, q⟩ := h
    refine ⟨_, PSs.nox (pss_cons (ps_set (i := 2) sc_law_take.nd rfl (Or.inl rfl) (pe_op op_mod (pe_callTy call_int1 (by rfl) T.z_int (by decide +kernel) (pa_cons (pe_ix ix_list (pv 0) pe_int (fun _ _ => rfl)) pa_nil)) (pv 1)))
  (pss_cons (ps_asg (pe_op op_fdiv (pe_ix ix_list (pv 0) pe_int (fun _ _ => rfl)) (pv 1)) (pg_sub (pv 0) pe_int set_list))
  (pss_one (ps_ret (pv 2))))), ?_⟩
    refine ⟨_, rfl, d, [.int n], 0, .int n, rfl, rfl, SqL.of hd, atI0, .inl ⟨n, rfl, _, rfl, n, s, rfl, rfl, s0, ?_⟩⟩
    refine ⟨_, rfl, d, [.int n], 0, .int n, rfl, rfl, SqL.of hd, atI0, _, rfl, n, s, rfl, rfl, ⟨s0, s1⟩, ?_⟩
    refine ⟨_, rfl, d, [.int n], 0, 0, rfl, rfl, hd, ixN0, _, rfl, ?_⟩
    exact q (n % s) (n / s) (Int.emod_nonneg n (by omega)) (Int.emod_lt_of_pos n s0)
theorem sc_law_cell : FnScope ["_law_script", "_law_k", "_law_cell_here", "_law_number", "_law_total", "_law_step"] ["_law_script", "_law_k"] (defScope s_law_cell) := ⟨rfl, rfl, rfl, by decide +kernel, rfl, by decide +kernel, by decide +kernel⟩
-- slots: 0 _law_script, 1 _law_k, 2 _law_cell_here, 3 _law_number, 4 _law_total, 5 _law_step
theorem ok_law_cell {fd : FuncData} (F : FnD K ("_law_cell", none) "_law_cell" "_law_cell" s_law_cell fd) (T : Txt K mg) : OkF P w K mg base CX0 1 "_law_cell" ["_law_script", "_law_k"] (Vf.spCell K) := by
  refine okd F (F.ok sc_law_cell (fun vs H Q E h => ?_) fun cdv A outer s H vs Q E hr h => ?_) fun _ _ _ _ _ _ us hl => match us, hl with | [_, _], _ => rfl
  · obtain ⟨l, ns, j, rfl, _⟩ := h
    rfl
  · obtain ⟨l, ns, j, rfl, hS, hj, q⟩ := h
    refine ⟨_, PSs.nox (pss_cons (ps_set (i := 2) sc_law_cell.nd rfl (Or.inl rfl) pe_int)
  (C8.pss_cut (ps_if (pt_cmpR op_lt (pv 1) (pe_callB (id := "len") call_len_seq (by rfl) T.z_len (by decide +kernel) (pa_cons (pv 0) pa_nil)) (nomark _)) (pss_one (ps_set (i := 2) sc_law_cell.nd rfl (Or.inl rfl) (pe_ix ix_list (pv 0) (pv 1) (fun _ _ => rfl))))
  pss_nil)
  (pss_cons (ps_if (pt_cmpR op_ge (pv 2) (pe_op op_pow pe_int pe_int) (nomark _)) (pss_one (ps_ret (pv 2)))
  pss_nil)
  (pss_cons (ps_set (i := 3) sc_law_cell.nd rfl (Or.inl rfl) (pe_op op_mod (pe_callTy call_int1 (by rfl) T.z_int (by decide +kernel) (pa_cons (pe_op op_add (pe_op op_add (pe_op op_mul (pv 2) pe_int) (pe_op op_mul (pv 1) pe_int)) pe_int) pa_nil)) pe_int))
  (pss_cons (ps_set (i := 4) sc_law_cell.nd rfl (Or.inl rfl) pe_int)
  (pss_cons (ps_for PassesOwn.never rfl (pi_range1 rfl T.z_range (pa_cons pe_int pa_nil)) (pg_name (i := 5) sc_law_cell.nd rfl (Or.inl rfl))
  (pss_cons (ps_set (i := 3) sc_law_cell.nd rfl (Or.inl rfl) (pe_op op_mod (pe_callTy call_int1 (by rfl) T.z_int (by decide +kernel) (pa_cons (pe_op op_add (pe_op op_add (pe_op op_mul (pv 3) pe_int) (pe_op op_mul (pv 5) pe_int)) pe_int) pa_nil)) pe_int))
  (pss_cons (ps_set (i := 3) sc_law_cell.nd rfl (Or.inl rfl) (pe_op op_mod (pe_callTy call_int1 (by rfl) T.z_int (by decide +kernel) (pa_cons (pe_op op_mul (pv 3) (pe_op op_add (pe_op op_fdiv (pv 3) pe_int) pe_int)) pa_nil)) pe_int))
  (pss_one (ps_set (i := 4) sc_law_cell.nd rfl (Or.inl rfl) (pe_op op_add (pe_op op_mul (pv 4) pe_int) (pv 3)))))))
  (pss_one (ps_ret (pv 4))))))))), ?_⟩
    refine ⟨fun σ' H' => H' = H ∧ ∃ c : Int, σ' = [some (.ref l), some (.int (j : Int)), some (.int c), none, none, none], ?_, ?_⟩
    · refine ⟨_, rfl, _, rfl, l, _, rfl, .inl hS, _, _, rfl, rfl, _, rfl, ite2 (fun hlt => ?_) fun _ => ⟨rfl, 0, rfl⟩⟩
      have hj2 : j < ns.length := by
        have := of_decide_eq_true hlt
        rw [List.length_map] at this
        omega
      refine ⟨_, rfl, _, rfl, l, _, (j : Int), .int ns[j], rfl, rfl, hS, atI_nat ?_, rfl, _, rfl⟩
      rw [List.getElem?_map, List.getElem?_eq_getElem hj2]
      rfl
    rintro σ' H' ⟨rfl, c, rfl⟩
    refine ⟨_, rfl, 10, 18, rfl, rfl, ⟨by decide, by decide, by decide⟩, _, _, rfl, rfl, _, rfl, ite2 (fun _ => ⟨_, rfl, q c⟩) fun _ => ?_⟩
    refine ⟨_, rfl, c, 7, rfl, rfl, .inr ⟨by decide, by decide⟩, _, rfl, (j : Int), 7919, rfl, rfl, .inr ⟨by decide, by decide⟩, _, _, rfl, rfl, _, _, rfl, rfl, .inl ⟨_, rfl, _, 2147483647, rfl, rfl, (by show (0 : Int) < 2147483647; decide), ?_⟩⟩
    refine ⟨8, rfl, by decide, by decide, for_range (lo := 0) (n := 8) (fun i σ H1 => H1 = H' ∧ ∃ (num tot : Int) (v : Option V), 0 ≤ num ∧ num < 2147483647 ∧ σ = [some (.ref l), some (.int (j : Int)), some (.int c), some (.int num), some (.int tot), v]) ?_ ?_ ?_⟩
    · exact ⟨rfl, _, 0, none, Int.emod_nonneg _ (by decide), Int.emod_lt_of_pos _ (by decide), rfl⟩
    · rintro i σ H1 hi ⟨rfl, num, tot, v, h0, h1, rfl⟩
      refine ⟨_, rfl, num, 48271, rfl, rfl, .inr ⟨by decide, by decide⟩, _, rfl, _, 30103, rfl, rfl, .inr ⟨by decide, by decide⟩, _, _, rfl, rfl, _, 11, rfl, rfl, .inl ⟨_, rfl, _, 2147483647, rfl, rfl, (by show (0 : Int) < 2147483647; decide), ?_⟩⟩
      have b0 := Int.emod_nonneg (num * 48271 + (0 + (i : Int)) * 30103 + 11) (b := 2147483647) (by decide)
      have b1 := Int.emod_lt_of_pos (num * 48271 + (0 + (i : Int)) * 30103 + 11) (b := 2147483647) (by decide)
      refine ⟨_, rfl, _, rfl, _, 1009, rfl, rfl, ⟨by decide, by decide⟩, _, 69621, rfl, rfl, _, _, rfl, rfl, .inl ⟨by omega, by omega⟩, .inl ⟨_, rfl, _, 2147483629, rfl, rfl, (by show (0 : Int) < 2147483629; decide), ?_⟩⟩
      refine ⟨_, rfl, tot, 2147483629, rfl, rfl, .inr ⟨by decide, by decide⟩, _, rfl, _, _, rfl, rfl, ?_⟩
      exact ⟨rfl, _, _, _, Int.emod_nonneg _ (by decide), Int.lt_trans (Int.emod_lt_of_pos _ (by decide)) (by decide), rfl⟩
    · rintro σ H1 ⟨rfl, num, tot, v, h0, h1, rfl⟩
      exact ⟨_, rfl, q tot⟩
theorem sc_law_name : FnScope ["_law_draw", "_law_used", "_law_letters", "_law_word", "_law_k", "_law_letter"] ["_law_draw", "_law_used"] (defScope s_law_name) := ⟨rfl, rfl, rfl, by decide +kernel, rfl, by decide +kernel, by decide +kernel⟩
-- slots: 0 _law_draw, 1 _law_used, 2 _law_letters, 3 _law_word, 4 _law_k, 5 _law_letter
/-- a name apart from the used ones -/
def spNam : Sp := fun vs H Q _ => ∃ (d u : Addr) (n : Int) (us : List Str), vs = [.ref d, .ref u] ∧ H d = some (.lst [.int n]) ∧ H u = some (.lst (us.map V.str)) ∧ u ≠ d ∧ us.length ≤ 6 ∧ ∀ H' (m : Int) z, SameX d H H' → H' d = some (.lst [.int m]) → nmB z = true → z.length ≤ 8 → z ∉ us → Q (.str z) H'
def okW (z : Str) (i : Nat) : Prop := z.length = i ∧ ∀ c ∈ z.cps.toList, c ∈ LET.cps.toList
theorem okW_nm {z : Str} {i : Nat} (h : okW z i) (h1 : 1 ≤ i) (h2 : i ≤ 8) (hk : inV (.str z) (KEPT.map V.str) = false) : nmB z = true := by
  unfold nmB
  rw [hk, h.1, decide_eq_true h1, decide_eq_true h2]
  simp only [Bool.true_and, Bool.not_false]
  rw [List.all_eq_true]
  exact fun c hc => decide_eq_true (h.2 c hc)
theorem okW_add {z : Str} {i c : Nat} (h : okW z i) (hc : c ∈ LET.cps.toList) : okW (z ++ ⟨#[c]⟩) (i + 1) := by
  have e : (z ++ (⟨#[c]⟩ : Str)).cps.toList = z.cps.toList ++ [c] := by
    show (z.cps ++ #[c]).toList = _
    simp
  refine ⟨?_, fun y hy => ?_⟩
  · show (z.cps ++ #[c]).size = i + 1
    rw [Array.size_append]
    have := h.1
    simp only [Str.length] at this
    simp [this]
  · rw [e] at hy
    rcases List.mem_append.mp hy with hy | hy
    · exact h.2 y hy
    · rw [List.mem_singleton] at hy
      rw [hy]
      exact hc
theorem let_nm {c : Nat} (h : c ∈ LET.cps.toList) : nmB ⟨#[c]⟩ = true := by
  have a : (LET.cps.toList.all fun c => nmB ⟨#[c]⟩) = true := by decide +kernel
  exact List.all_eq_true.mp a c h
theorem nodup_le {α : Type} [DecidableEq α] : ∀ {l u : List α}, l.Nodup → (∀ x ∈ l, x ∈ u) → l.length ≤ u.length
  | [], _, _, _ => Nat.zero_le _
  | a :: l, u, nd, h => by
    rw [List.nodup_cons] at nd
    have ha := h a (List.mem_cons_self ..)
    have h2 : ∀ x ∈ l, x ∈ u.erase a := fun x hx => by
      have hne : x ≠ a := fun e => nd.1 (e ▸ hx)
      exact (List.mem_erase_of_ne hne).mpr (h x (List.mem_cons_of_mem _ hx))
    have := nodup_le nd.2 h2
    rw [List.length_erase_of_mem ha] at this
    have hp : 0 < u.length := List.length_pos_of_mem ha
    rw [List.length_cons]
    omega
theorem some_letter {us : List Str} (h : us.length ≤ 6) : ¬ ∀ c ∈ LET.cps.toList, (⟨#[c]⟩ : Str) ∈ us := fun hall => by
  have nd : (LET.cps.toList.map fun c => (⟨#[c]⟩ : Str)).Nodup := by decide +kernel
  have := nodup_le nd (u := us) fun x hx => by
    obtain ⟨c, hc, rfl⟩ := List.mem_map.mp hx
    exact hall c hc
  rw [List.length_map] at this
  have e : LET.cps.toList.length = 26 := by decide +kernel
  omega
theorem ok_law_name {fd : FuncData} (F : FnD K ("_law_name", none) "_law_name" "_law_name" s_law_name fd) (T : Txt K mg) (O_law_take : OkF P w K mg base CX0 1 "_law_take" ["_law_draw", "_law_size"] spTake) : OkF P w K mg base CX0 2 "_law_name" ["_law_draw", "_law_used"] spNam := by
  refine okd F (F.ok sc_law_name (fun vs H Q E h => ?_) fun cdv A outer s H vs Q E hr h => ?_) fun _ _ _ _ _ _ us hl => match us, hl with | [_, _], _ => rfl
  · obtain ⟨d, u, n, us, rfl, _⟩ := h
    rfl
  · obtain ⟨d, u, n, us, rfl, hd, hu, nud, hus, k⟩ := h
    refine ⟨_, PSs.nox (pss_cons (ps_set (i := 2) sc_law_name.nd rfl (Or.inl rfl) pe_str)
  (pss_cons (ps_set (i := 3) sc_law_name.nd rfl (Or.inl rfl) pe_str)
  (pss_cons (ps_for PassesOwn.never rfl (pi_range1 rfl T.z_range (pa_cons (pe_op op_add pe_int (c_fn O_law_take hr (by decide) T.g_law_take pass0 (pa_cons (pv 0) (pa_cons pe_int pa_nil)))) pa_nil)) (pg_name (i := 4) sc_law_name.nd rfl (Or.inl rfl))
  (pss_one (ps_set (i := 3) sc_law_name.nd rfl (Or.inl rfl) (pe_op op_add_str (pv 3) (pe_ix ix_str (pv 2) (c_fn O_law_take hr (by decide) T.g_law_take pass0 (pa_cons (pv 0) (pa_cons pe_int pa_nil))) (fun _ _ => rfl))))))
  (pss_cons (ps_if (PW.pt (pw_and (pt_cmpR op_notIn_seq (pv 3) (pv 1) rfl) (pw_and1 (pt_cmpR op_notIn_seq (pv 3) (pe_lst (pa_cons pe_str (pa_cons pe_str (pa_cons pe_str (pa_cons pe_str (pa_cons pe_str pa_nil)))))) rfl)))) (pss_one (ps_ret (pv 3)))
  pss_nil)
  (pss_cons (ps_for PassesOwn.never rfl (pi_str (pv 2)) (pg_name (i := 5) sc_law_name.nd rfl (Or.inl rfl))
  (pss_one (ps_if (pt_cmpR op_notIn_seq (pv 5) (pv 1) rfl) (pss_one (ps_ret (pv 5)))
  pss_nil)))
  (pss_one (ps_ret (pv 3)))))))), ?_⟩
    refine ⟨_, rfl, d, n, 8, rfl, hd, by decide, by decide, fun r m r0 r1 => ⟨1, r, rfl, rfl, 1 + r, rfl, by omega, by omega, ?_⟩⟩
    refine for_range (lo := 0) (n := (1 + r).toNat) (fun i σ H' => SameX d H H' ∧ ∃ (m : Int) (z : Str) (v : Option V), H' d = some (.lst [.int m]) ∧ okW z i ∧ σ = [some (.ref d), some (.ref u), some (.str LET), some (.str z), v, none]) ⟨SameX.upd, m, "", none, upd_same, ⟨rfl, fun _ h => nomatch h⟩, rfl⟩ ?_ ?_
    · rintro i σ H' hi ⟨sg, m, z, v, hd', hw, rfl⟩
      refine ⟨_, rfl, _, rfl, _, rfl, d, m, 26, rfl, hd', by decide, by decide, fun q m2 q0 q1 => ?_⟩
      have hl26 : LET.cps.toList.length = 26 := by decide +kernel
      have hq : q.toNat < LET.cps.toList.length := by omega
      refine ⟨LET, q, LET.cps.toList[q.toNat], rfl, rfl, by decide +kernel, ?_, z, ⟨#[LET.cps.toList[q.toNat]]⟩, rfl, rfl, ?_, ?_⟩
      · have h := atI_nat (List.getElem?_eq_getElem hq)
        rw [Int.toNat_of_nonneg q0] at h
        exact h
      · have := hw.1
        have h1 : (⟨#[LET.cps.toList[q.toNat]]⟩ : Str).length = 1 := rfl
        rw [h1, this]
        exact Nat.le_trans (show i + 1 ≤ 9 by omega) (by decide)
      · exact ⟨sg.trans SameX.upd, m2, _, _, upd_same, okW_add hw (List.getElem_mem hq), rfl⟩
    · rintro σ H' ⟨sg, m, z, v, hd', hw, rfl⟩
      have hu' := sg _ _ nud hu
      have fin := fun H2 z' (s2 : Same H' H2) => k H2 m z' (sg.trans (same_x s2)) (s2 _ _ hd')
      -- the letters
      have letters : ∀ H2 : Hp, Same H' H2 → ∀ v : Option V, ∃ W : Nat → Nat → L2.St → Hp → Prop, True := fun _ _ _ => ⟨fun _ _ _ _ => True, trivial⟩
      clear letters
      refine ⟨_, rfl, _, rfl, u, _, rfl, .inl (SqL.of hu'), rfl, flat_str us, _, rfl, ?_⟩
      rw [inV_str]
      by_cases hz : z ∈ us
      · rw [decide_eq_true hz]
        refine iteF ⟨_, rfl, LET, rfl, for_it walk_str (fun i σ' H2 => H2 = H' ∧ (∀ j c, j < i → LET.cps[j]? = some c → (⟨#[c]⟩ : Str) ∈ us) ∧ ∃ v2, σ' = [some (.ref d), some (.ref u), some (.str LET), some (.str z), v, v2]) ⟨rfl, (fun j c h => absurd h (Nat.not_lt_zero _)), _, rfl⟩ (fun _ _ _ _ _ => trivial) ?_ ?_⟩
        · rintro i x σ' H2 H3 hi ⟨rfl, hin, v2, rfl⟩ ⟨rfl, c, hc, rfl⟩
          have hcm : c ∈ LET.cps.toList := by
            have : LET.cps.toList[i]? = some c := by simpa using hc
            exact List.mem_of_getElem? this
          refine ⟨_, rfl, _, rfl, u, _, rfl, .inl (SqL.of hu'), rfl, flat_str us, _, rfl, ?_⟩
          rw [inV_str]
          by_cases hcu : (⟨#[c]⟩ : Str) ∈ us
          · rw [decide_eq_true hcu]
            refine iteF ⟨rfl, fun j c' hj hc' => ?_, _, rfl⟩
            by_cases hji : j = i
            · subst hji
              rw [hc] at hc'
              cases hc'
              exact hcu
            · exact hin j c' (by omega) hc'
          · rw [decide_eq_false hcu]
            exact iteT ⟨_, rfl, fin _ _ (Same.refl _) (let_nm hcm) (show 1 ≤ 8 by decide) hcu⟩
        · rintro σ' H2 ⟨rfl, hin, v2, rfl⟩
          refine absurd (fun c hc => ?_) (some_letter hus)
          obtain ⟨j, hj⟩ := List.mem_iff_getElem?.mp hc
          have hj2 : LET.cps[j]? = some c := by simpa using hj
          exact hin j c (Array.getElem?_eq_some_iff.mp hj2).1 hj2
      · rw [decide_eq_false hz]
        refine iteT ⟨_, rfl, (by show 5 ≤ sizeLine; decide), fun L nL => ⟨L, KEPT.map V.str, rfl, .inl (SqL.of upd_same), rfl, by decide +kernel, _, rfl, ?_⟩⟩
        have sL := same_new (o := .lst (KEPT.map V.str)) nL
        cases hv : inV (.str z) (KEPT.map V.str) with
        | false => exact iteT ⟨_, rfl, fin _ _ sL (okW_nm hw (by omega) (by omega) hv) (by rw [hw.1]; omega) hz⟩
        | true =>
          have hu2 := sL _ _ hu'
          refine iteF ⟨_, rfl, LET, rfl, for_it walk_str (fun i σ' H2 => H2 = upd H' L (.lst (KEPT.map V.str)) ∧ (∀ j c, j < i → LET.cps[j]? = some c → (⟨#[c]⟩ : Str) ∈ us) ∧ ∃ v2, σ' = [some (.ref d), some (.ref u), some (.str LET), some (.str z), v, v2]) ⟨rfl, (fun j c h => absurd h (Nat.not_lt_zero _)), _, rfl⟩ (fun _ _ _ _ _ => trivial) ?_ ?_⟩
          · rintro i x σ' H2 H3 hi ⟨rfl, hin, v2, rfl⟩ ⟨rfl, c, hc, rfl⟩
            have hcm : c ∈ LET.cps.toList := by
              have : LET.cps.toList[i]? = some c := by simpa using hc
              exact List.mem_of_getElem? this
            refine ⟨_, rfl, _, rfl, u, _, rfl, .inl (SqL.of hu2), rfl, flat_str us, _, rfl, ?_⟩
            rw [inV_str]
            by_cases hcu : (⟨#[c]⟩ : Str) ∈ us
            · rw [decide_eq_true hcu]
              refine iteF ⟨rfl, fun j c' hj hc' => ?_, _, rfl⟩
              by_cases hji : j = i
              · subst hji
                rw [hc] at hc'
                cases hc'
                exact hcu
              · exact hin j c' (by omega) hc'
            · rw [decide_eq_false hcu]
              exact iteT ⟨_, rfl, fin _ _ sL (let_nm hcm) (show 1 ≤ 8 by decide) hcu⟩
          · rintro σ' H2 ⟨rfl, hin, v2, rfl⟩
            refine absurd (fun c hc => ?_) (some_letter hus)
            obtain ⟨j, hj⟩ := List.mem_iff_getElem?.mp hc
            have hj2 : LET.cps[j]? = some c := by simpa using hj
            exact hin j c (Array.getElem?_eq_some_iff.mp hj2).1 hj2
end
end K36

set_option Elab.async false
set_option linter.all false
set_option pp.deepTerms.threshold 14
set_option pp.maxSteps 2500
set_option maxRecDepth 100000
set_option maxHeartbeats 2000000
namespace K36
open PySem PySem.Spec PyProof.Rows L2 Vf
section
variable {P : Program} {w : World} {K : PySem.W.Frag} {mg : Str → Option Value} {base : Heap}
/-- all but what stands at d and at e is as it was -/
def Same2 (d e : Addr) (H H' : Hp) : Prop := ∀ b o, b ≠ d → b ≠ e → H b = some o → H' b = some o
theorem Same2.x {d e : Addr} {H H1 H2 : Hp} (a : Same2 d e H H1) (b : SameX d H1 H2) : Same2 d e H H2 := fun c o n m h => b c o n (a c o n m h)
theorem Same2.y {d e : Addr} {H H1 H2 : Hp} (a : Same2 d e H H1) (b : SameX e H1 H2) : Same2 d e H H2 := fun c o n m h => b c o m (a c o n m h)
theorem Same2.s {d e : Addr} {H H1 H2 : Hp} (a : Same2 d e H H1) (b : Same H1 H2) : Same2 d e H H2 := fun c o n m h => b c o (a c o n m h)
/-- a row's list and the tuple of its nexts -/
def RowA (H : Hp) (y : PgE) : Prop := H y.1 = some (.lst [.str y.2.2.z, .int y.2.2.l, .int y.2.2.m, .bl y.2.2.b, .ref y.2.1]) ∧ H y.2.1 = some (.tup (y.2.2.ns.map V.str))
/-- the list at R: rows -/
structure RowsA (H : Hp) (R : Addr) (ys : List PgE) : Prop where
  hR : H R = some (.lst (ys.map fun y => V.ref y.1))
  row : ∀ y ∈ ys, RowA H y
theorem ref_int {ys : List PgE} {n : Int} : HO.lst (ys.map fun y => V.ref y.1) ≠ HO.lst [.int n] := fun z => by
  injection z with z
  cases ys with
  | nil => cases z
  | cons y ys => cases z
theorem RowA.ne_int {H : Hp} {y : PgE} {d : Addr} {n : Int} (h : RowA H y) (hd : H d = some (.lst [.int n])) : y.1 ≠ d ∧ y.2.1 ≠ d := ⟨ne_of h.1 hd (by intro z; cases z), ne_of h.2 hd (by intro z; cases z)⟩
theorem RowA.ne_R {H : Hp} {y : PgE} {R : Addr} {ys : List PgE} (h : RowA H y) (hR : H R = some (.lst (ys.map fun y => V.ref y.1))) : y.1 ≠ R ∧ y.2.1 ≠ R := by
  refine ⟨ne_of h.1 hR fun z => ?_, ne_of h.2 hR (by intro z; cases z)⟩
  injection z with z
  cases ys with
  | nil => cases z
  | cons y ys => cases z
theorem RowA.ext {H H' : Hp} {y : PgE} (h : RowA H y) (s : Same H H') : RowA H' y := ⟨s _ _ h.1, s _ _ h.2⟩
theorem RowsA.ext {H H' : Hp} {R : Addr} {ys : List PgE} (h : RowsA H R ys) (s : Same H H') : RowsA H' R ys := ⟨s _ _ h.hR, fun y hy => (h.row y hy).ext s⟩
theorem RowsA.extX {H H' : Hp} {R d : Addr} {n : Int} {ys : List PgE} (h : RowsA H R ys) (hd : H d = some (.lst [.int n])) (s : SameX d H H') : RowsA H' R ys := by
  refine ⟨s _ _ (ne_of h.hR hd ref_int) h.hR, fun y hy => ?_⟩
  have r := h.row y hy
  exact ⟨s _ _ (r.ne_int hd).1 r.1, s _ _ (r.ne_int hd).2 r.2⟩
theorem RowsA.add {H : Hp} {R a t : Addr} {r : Rw} {ys : List PgE} (h : RowsA H R ys) (hr : RowA H (a, t, r)) : RowsA (upd H R (.lst ((ys.map fun y => V.ref y.1) ++ [.ref a]))) R (ys ++ [(a, t, r)]) := by
  refine ⟨by rw [upd_same, List.map_append]; rfl, fun y hy => ?_⟩
  have hy' : RowA H y := by
    rcases List.mem_append.mp hy with hy | hy
    · exact h.row y hy
    · rw [List.mem_singleton] at hy
      rw [hy]
      exact hr
  exact ⟨by rw [upd_ne (hy'.ne_R h.hR).1]; exact hy'.1, by rw [upd_ne (hy'.ne_R h.hR).2]; exact hy'.2⟩
/-- a row whose list is made anew in place -/
theorem RowsA.put {H : Hp} {R : Addr} {k : Nat} {t : Addr} {y : PgE} {r : Rw} {ys : List PgE} (h : RowsA H R ys) (nd : (ys.map (·.1)).Nodup) (hk : ys[k]? = some y) (ht : H t = some (.tup (r.ns.map V.str))) (hz : t ≠ y.1) :
    RowsA (upd H y.1 (.lst [.str r.z, .int r.l, .int r.m, .bl r.b, .ref t])) R (ys.set k (y.1, t, r)) := by
  have hy := h.row y (List.mem_of_getElem? hk)
  have hlt : k < ys.length := (List.getElem?_eq_some_iff.mp hk).1
  refine ⟨?_, fun v hv => ?_⟩
  · rw [upd_ne (hy.ne_R h.hR).1.symm, h.hR]
    congr 2
    refine List.ext_getElem? fun i => ?_
    rw [List.getElem?_map, List.getElem?_map, List.getElem?_set]
    by_cases e : k = i
    · subst e
      rw [if_pos rfl, if_pos hlt, hk]
      rfl
    · rw [if_neg e]
  · obtain ⟨i, hi⟩ := List.mem_iff_getElem?.mp hv
    rw [List.getElem?_set] at hi
    by_cases e : k = i
    · subst e
      rw [if_pos rfl, if_pos hlt] at hi
      cases hi
      exact ⟨upd_same, by rw [upd_ne hz]; exact ht⟩
    · rw [if_neg e] at hi
      have hv' := h.row v (List.mem_of_getElem? hi)
      have hne : v.1 ≠ y.1 := fun q => by
        have h1 : (ys.map (·.1))[i]? = some v.1 := by rw [List.getElem?_map, hi]; rfl
        have h2 : (ys.map (·.1))[k]? = some v.1 := by rw [List.getElem?_map, hk, q]; rfl
        have hlt2 : k < (ys.map (·.1)).length := by rw [List.length_map]; exact hlt
        exact e ((List.getElem?_inj hlt2 nd).mp (h2.trans h1.symm))
      exact ⟨by rw [upd_ne hne]; exact hv'.1, by rw [upd_ne (ne_of hv'.2 hy.1 (by intro z; cases z))]; exact hv'.2⟩
theorem set_zs {ys : List PgE} {k : Nat} {y : PgE} {t : Addr} {r : Rw} (hk : ys[k]? = some y) (hz : r.z = y.2.2.z) : zsOf (ys.set k (y.1, t, r)) = zsOf ys := by
  unfold zsOf
  refine List.ext_getElem? fun i => ?_
  have hlt : k < ys.length := (List.getElem?_eq_some_iff.mp hk).1
  rw [List.getElem?_map, List.getElem?_map, List.getElem?_set]
  by_cases e : k = i
  · subst e
    rw [if_pos rfl, if_pos hlt, hk]
    show some r.z = some y.2.2.z
    rw [hz]
  · rw [if_neg e]
theorem set_ad {ys : List PgE} {k : Nat} {y : PgE} {t : Addr} {r : Rw} (hk : ys[k]? = some y) : (ys.set k (y.1, t, r)).map (·.1) = ys.map (·.1) := by
  refine List.ext_getElem? fun i => ?_
  have hlt : k < ys.length := (List.getElem?_eq_some_iff.mp hk).1
  rw [List.getElem?_map, List.getElem?_map, List.getElem?_set]
  by_cases e : k = i
  · subst e
    rw [if_pos rfl, if_pos hlt, hk]
    rfl
  · rw [if_neg e]
/-- what a row keeps: its name, its stay -/
def RowK (r : Rw) : Prop := nmB r.z = true ∧ r.z.length ≤ 8 ∧ 1 ≤ r.l ∧ r.l ≤ r.m ∧ r.m ≤ 6
structure RowsOk (ys : List PgE) : Prop where
  nd : (zsOf ys).Nodup
  l1 : 1 ≤ ys.length
  l6 : ys.length ≤ 6
  kp : ∀ y ∈ ys, RowK y.2.2
  ns : ∀ y ∈ ys, (∀ v ∈ y.2.2.ns, v ∈ zsOf ys) ∧ y.2.2.ns.Nodup
theorem mod_inj {n s w a b : Int} (hn : 1 ≤ n) (hn6 : n ≤ 6) (hw : w = 1 ∨ w = -1) (a0 : 0 ≤ a) (a1 : a < n) (b0 : 0 ≤ b) (b1 : b < n) (h : (s + w * a) % n = (s + w * b) % n) : a = b := by
  have h6 : n = 1 ∨ n = 2 ∨ n = 3 ∨ n = 4 ∨ n = 5 ∨ n = 6 := by omega
  rcases hw with rfl | rfl <;> rcases h6 with rfl | rfl | rfl | rfl | rfl | rfl <;> omega
theorem RowsA.extF {H H' : Hp} {R F : Addr} {ys : List PgE} {fs : List Str} (h : RowsA H R ys) (hn : ys ≠ []) (hF : H F = some (.lst (fs.map V.str))) (s : SameX F H H') : RowsA H' R ys := by
  refine ⟨s _ _ (ne_of h.hR hF fun z => ?_) h.hR, fun y hy => ?_⟩
  · injection z with z
    cases ys with
    | nil => exact hn rfl
    | cons y ys =>
      cases fs with
      | nil => cases z
      | cons f fs => cases z
  · have r := h.row y hy
    refine ⟨s _ _ (ne_of r.1 hF fun z => ?_) r.1, s _ _ (ne_of r.2 hF (by intro z; cases z)) r.2⟩
    injection z with z
    cases fs with
    | nil => cases z
    | cons f fs =>
      cases fs with
      | nil => cases z
      | cons g gs => cases z
theorem int_str {n : Int} {fs : List Str} : HO.lst [.int n] ≠ HO.lst (fs.map V.str) := fun z => by
  injection z with z
  cases fs with
  | nil => cases z
  | cons f fs => cases z
theorem ixN4 {n : Nat} : ixN (n + 5) 4 = some 4 := by
  unfold ixN
  rw [if_pos (by omega), if_pos (by omega)]
  all_goals rfl
theorem sc_law_rows : FnScope ["_law_draw", "_law_words", "_law_many", "_law_longest", "_law_rows_here", "_law_k", "_law_word", "_law_row_here", "_law_low", "_law_shift", "_law_way", "_law_found", "_law_j"] ["_law_draw", "_law_words", "_law_many", "_law_longest"] (defScope s_law_rows) := ⟨rfl, rfl, rfl, by decide +kernel, rfl, by decide +kernel, by decide +kernel⟩
-- slots: 0 _law_draw, 1 _law_words, 2 _law_many, 3 _law_longest, 4 _law_rows_here, 5 _law_k, 6 _law_word, 7 _law_row_here, 8 _law_low, 9 _law_shift, 10 _law_way, 11 _law_found, 12 _law_j
def spRows : Sp := fun vs H Q _ => ∃ (d e : Addr) (n n' mn lg : Int), vs = [.ref d, .ref e, .int mn, .int lg] ∧ H d = some (.lst [.int n]) ∧ H e = some (.lst [.int n']) ∧ d ≠ e ∧ 1 ≤ mn ∧ mn ≤ 6 ∧ 1 ≤ lg ∧ lg ≤ 6 ∧
  ∀ H' R ys, Same2 d e H H' → (∃ m : Int, H' d = some (.lst [.int m])) → RowsA H' R ys → RowsOk ys → (ys.map (·.1)).Nodup → H R = none → Q (.ref R) H'
theorem zs_add {ys : List PgE} {y : PgE} : zsOf (ys ++ [y]) = zsOf ys ++ [y.2.2.z] := List.map_append ..
theorem nodup_add {α : Type} {l : List α} {a : α} (h : l.Nodup) (n : a ∉ l) : (l ++ [a]).Nodup := List.nodup_append.mpr ⟨h, by simp, fun x hx y hy => by
  rw [List.mem_singleton] at hy
  rw [hy]
  exact fun e => n (e ▸ hx)⟩
theorem ok_law_rows {fd : FuncData} (F : FnD K ("_law_rows", none) "_law_rows" "_law_rows" s_law_rows fd) (T : Txt K mg) (O_law_take : OkF P w K mg base CX0 1 "_law_take" ["_law_draw", "_law_size"] spTake) (O_law_name : OkF P w K mg base CX0 2 "_law_name" ["_law_draw", "_law_used"] spNam) : OkF P w K mg base CX0 3 "_law_rows" ["_law_draw", "_law_words", "_law_many", "_law_longest"] spRows := by
  refine okd F (F.ok sc_law_rows (fun vs H Q E h => ?_) fun cdv A outer s H vs Q E hr h => ?_) fun _ _ _ _ _ _ us hl => match us, hl with | [_, _, _, _], _ => rfl
  · obtain ⟨d, e, n, n', mn, lg, rfl, _⟩ := h
    rfl
  · obtain ⟨d, e, n, n', mn, lg, rfl, hd, he, nde, m1, m6, g1, g6, k⟩ := h
    refine ⟨_, PSs.nox (pss_cons (ps_set (i := 4) sc_law_rows.nd rfl (Or.inl rfl) (pe_lst pa_nil))
  (pss_cons (ps_for PassesOwn.never rfl (pi_range1 rfl T.z_range (pa_cons (pe_op op_add pe_int (c_fn O_law_take hr (by decide) T.g_law_take pass0 (pa_cons (pv 0) (pa_cons (pv 2) pa_nil)))) pa_nil)) (pg_name (i := 5) sc_law_rows.nd rfl (Or.inl rfl))
  (pss_cons (ps_set (i := 6) sc_law_rows.nd rfl (Or.inl rfl) (c_fn O_law_name hr (by decide) T.g_law_name pass0 (pa_cons (pv 1) (pa_cons (pe_lc (own := [("_law_row_here", 7)]) (g := gName 7) (tt := tYes) (by rfl) sc_law_rows.nd (pi_list (pv 4)) (blkOk_by (N := ["_law_draw", "_law_words", "_law_many", "_law_longest", "_law_rows_here", "_law_k", "_law_word", "_law_row_here", "_law_low", "_law_shift", "_law_way", "_law_found", "_law_j"]) (sc := defScope s_law_rows) (by decide +kernel)) (fun _ _ _ _ _ => (pg_name (i := 7) sc_law_rows.nd rfl (Or.inl rfl))) (fun _ _ _ _ _ => pts_nil) (fun _ _ _ _ _ => (pe_ix (ix_listK (K := K) rfl) (pv 7) pe_int (fun _ _ => rfl)))) pa_nil))))
  (pss_cons (ps_set (i := 8) sc_law_rows.nd rfl (Or.inl rfl) (pe_op op_add pe_int (c_fn O_law_take hr (by decide) T.g_law_take pass0 (pa_cons (pv 0) (pa_cons (pv 3) pa_nil)))))
  (pss_one (ps_expr (pe_bm PySem.F.plainAttrs_list PySem.F.slot_list_append PySem.F.type_list_append mt_append (pv 4) (pa_cons (pe_lst (pa_cons (pv 6) (pa_cons (pv 8) (pa_cons (pe_op op_add (pv 8) (c_fn O_law_take hr (by decide) T.g_law_take pass0 (pa_cons (pv 0) (pa_cons (pe_op op_sub (pe_op op_add (pv 3) pe_int) (pv 8)) pa_nil)))) (pa_cons (pe_cmpR op_gt (c_fn O_law_take hr (by decide) T.g_law_take pass0 (pa_cons (pv 0) (pa_cons pe_int pa_nil))) pe_int (nomark _)) (pa_cons (pe_tup pa_nil) pa_nil)))))) pa_nil)))))))
  (pss_cons (ps_for PassesOwn.never rfl (pi_range1 rfl T.z_range (pa_cons (pe_callB (id := "len") call_len_seq (by rfl) T.z_len (by decide +kernel) (pa_cons (pv 4) pa_nil)) pa_nil)) (pg_name (i := 5) sc_law_rows.nd rfl (Or.inl rfl))
  (pss_cons (ps_set (i := 9) sc_law_rows.nd rfl (Or.inl rfl) (c_fn O_law_take hr (by decide) T.g_law_take pass0 (pa_cons (pv 0) (pa_cons (pe_callB (id := "len") call_len_seq (by rfl) T.z_len (by decide +kernel) (pa_cons (pv 4) pa_nil)) pa_nil))))
  (pss_cons (ps_set (i := 10) sc_law_rows.nd rfl (Or.inl rfl) (pe_op op_sub pe_int (pe_op op_mul pe_int (c_fn O_law_take hr (by decide) T.g_law_take pass0 (pa_cons (pv 0) (pa_cons pe_int pa_nil))))))
  (pss_cons (ps_set (i := 11) sc_law_rows.nd rfl (Or.inl rfl) (pe_lst pa_nil))
  (pss_cons (ps_for PassesOwn.never rfl (pi_range1 rfl T.z_range (pa_cons (pe_callB (id := "len") call_len_seq (by rfl) T.z_len (by decide +kernel) (pa_cons (pv 4) pa_nil)) pa_nil)) (pg_name (i := 12) sc_law_rows.nd rfl (Or.inl rfl))
  (pss_one (ps_if (pt_cmpR op_gt (c_fn O_law_take hr (by decide) T.g_law_take pass0 (pa_cons (pv 0) (pa_cons pe_int pa_nil))) pe_int (nomark _)) (pss_one (ps_expr (pe_bm PySem.F.plainAttrs_list PySem.F.slot_list_append PySem.F.type_list_append mt_append (pv 11) (pa_cons (pe_ix ix_list (pe_ix ix_list (pv 4) (pe_op op_mod (pe_op op_add (pv 9) (pe_op op_mul (pv 10) (pv 12))) (pe_callB (id := "len") call_len_seq (by rfl) T.z_len (by decide +kernel) (pa_cons (pv 4) pa_nil))) (fun _ _ => rfl)) pe_int (fun _ _ => rfl)) pa_nil))))
  pss_nil)))
  (pss_cons (ps_set (i := 7) sc_law_rows.nd rfl (Or.inl rfl) (pe_ix ix_list (pv 4) (pv 5) (fun _ _ => rfl)))
  (pss_one (ps_asg (pe_callTy call_tuple_of (by rfl) T.z_tuple (by decide +kernel) (pa_cons (pv 11) pa_nil)) (pg_sub (pv 7) pe_int set_list)))))))))
  (pss_one (ps_ret (pv 4)))))), ?_⟩
    refine ⟨(by show 0 ≤ sizeLine; decide), fun R nR => ?_⟩
    have nRd : R ≠ d := (ne_of_none hd nR).symm
    have nRe : R ≠ e := (ne_of_none he nR).symm
    have hd0 := same_new (o := .lst []) nR _ _ hd
    have he0 := same_new (o := .lst []) nR _ _ he
    have s0 : Same2 d e H (upd H R (.lst [])) := fun b o _ _ h => same_new nR _ _ h
    have hR0 : (upd H R (.lst [])) R = some (.lst []) := upd_same
    generalize upd H R (.lst []) = H0 at hd0 he0 s0 hR0 ⊢
    refine ⟨_, rfl, _, rfl, d, n, mn, rfl, hd0, by omega, by omega, fun r m r0 r1 => ⟨1, r, rfl, rfl, 1 + r, rfl, by omega, by omega, ?_⟩⟩
    have hRm : (upd H0 d (.lst [.int m])) R = some (.lst []) := by rw [upd_ne nRd]; exact hR0
    have hem : (upd H0 d (.lst [.int m])) e = some (.lst [.int n']) := by rw [upd_ne nde.symm]; exact he0
    refine for_range (lo := 0) (n := (1 + r).toNat) (fun i σ H' => Same2 d e H H' ∧ (∃ m : Int, H' d = some (.lst [.int m])) ∧ (∃ m : Int, H' e = some (.lst [.int m])) ∧ ∃ (ys : List PgE) (v5 v6 v8 : Option V), RowsA H' R ys ∧ ys.length = i ∧ (zsOf ys).Nodup ∧ (ys.map (·.1)).Nodup ∧ (∀ y ∈ ys, RowK y.2.2 ∧ y.2.2.ns = []) ∧ (∀ a ∈ ys.map (·.1), H a = none) ∧
      σ = [some (.ref d), some (.ref e), some (.int mn), some (.int lg), some (.ref R), v5, v6, none, v8, none, none, none, none]) ⟨s0.x SameX.upd, ⟨m, upd_same⟩, ⟨n', hem⟩, [], none, none, none, ⟨hRm, fun _ h => nomatch h⟩, rfl, List.nodup_nil, List.nodup_nil, (fun _ h => nomatch h), (fun _ h => nomatch h), rfl⟩ ?_ ?_
    · clear hRm hem hR0 s0 he0 hd0 hd he H0 n n' m
      rintro i σ H1 hi ⟨sg, ⟨m, hd⟩, ⟨m', he⟩, ys, v5, v6, v8, hR, hl, hz, ha, hk, hfr, rfl⟩
      have hi6 : ys.length ≤ 5 := by omega
      have hlz : (zsOf ys).length = ys.length := List.length_map ..
      -- the used names
      refine ⟨_, rfl, _, rfl, R, rfl, ⟨_, SqL.of hR.hR⟩, fun D nD => lc_it walk_list (fun i H' => Same H1 H' ∧ H' D = some (.lst (((zsOf ys).take i).map V.str))) ⟨same_new nD, upd_same⟩ (fun i H' _ h => h.1.seq (SqL.of hR.hR)) ?_ ?_⟩
      · rintro j x H3 H' hj ⟨sg3, hD3⟩ ⟨rfl, hx⟩
        obtain ⟨y, hy, rfl⟩ := getE hx
        have hyr := ((hR.ext sg3).row y (List.mem_of_getElem? hy)).1
        refine ⟨rfl, _, rfl, y.1, _, 0, .str y.2.2.z, rfl, rfl, SqL.of hyr, atI0, ?_⟩
        refine ⟨_, hD3, ?_, same_app sg3 (Same.refl _) nD, ?_⟩
        · rw [List.length_map, List.length_take]
          rw [List.length_map] at hj
          exact Nat.lt_of_le_of_lt (Nat.min_le_left _ _) (Nat.lt_of_lt_of_le hj (Nat.le_trans hi6 (by decide)))
        · rw [upd_same, List.take_add_one, List.map_append]
          have : (zsOf ys)[j]? = some y.2.2.z := by
            unfold zsOf
            rw [List.getElem?_map, hy]
            rfl
          rw [this]
          rfl
      rintro H2 ⟨s12, hD⟩
      rw [List.length_map, ← hlz, List.take_length] at hD
      have hd2 := s12 _ _ hd
      have he2 := s12 _ _ he
      have hR2 := hR.ext s12
      have nDe : D ≠ e := (ne_of_none he nD).symm
      refine ⟨e, D, m', zsOf ys, rfl, he2, hD, nDe, by omega, fun H3 m3 z x3 he3 hz1 hz8 hzn => ?_⟩
      have hd3 := x3 _ _ nde hd2
      have hR3 := hR2.extX he2 x3
      have sg3 := (sg.s s12).y x3
      clear hR2 he2 hd2 x3 nDe hD s12 nD hR he hd sg H1 H2
      -- the stay
      refine ⟨_, rfl, _, rfl, d, m, lg, rfl, hd3, by omega, by omega, fun lo m4 lo0 lo1 => ⟨1, lo, rfl, rfl, ?_⟩⟩
      have hd4 : (upd H3 d (.lst [.int m4])) d = some (.lst [.int m4]) := upd_same
      have he4 : (upd H3 d (.lst [.int m4])) e = some (.lst [.int m3]) := by rw [upd_ne nde.symm]; exact he3
      have hR4 := hR3.extX hd3 (SameX.upd (o := .lst [.int m4]))
      have sg4 := sg3.x (SameX.upd (d := d) (H := H3) (o := .lst [.int m4]))
      generalize upd H3 d (.lst [.int m4]) = H4 at hd4 he4 hR4 sg4 ⊢
      clear hR3 he3 hd3 sg3 H3
      refine ⟨_, rfl, .inl ⟨rfl, _, SqL.of hR4.hR⟩, _, rfl, _, rfl, _, rfl, _, rfl, _, rfl, lg, 1, rfl, rfl, _, rfl, lg + 1, 1 + lo, rfl, rfl, d, m4, lg + 1 - (1 + lo), rfl, hd4, by omega, by omega, fun q m5 q0 q1 => ⟨1 + lo, q, rfl, rfl, _, rfl, d, m5, 3, rfl, upd_same, by decide, by decide, fun q' m6 q0' q1' => ⟨q', 0, rfl, rfl, (by show 0 ≤ sizeLine; decide), fun t nt => ⟨(by show 5 ≤ sizeLine; decide), fun a na => ?_⟩⟩⟩⟩
      have x5 : SameX d H4 (upd (upd H4 d (.lst [.int m5])) d (.lst [.int m6])) := SameX.upd.trans SameX.upd
      have hd5 : (upd (upd H4 d (.lst [.int m5])) d (.lst [.int m6])) d = some (.lst [.int m6]) := upd_same
      have he5 := x5 _ _ nde.symm he4
      have hR5 := hR4.extX hd4 x5
      have sg5 := sg4.x x5
      generalize upd (upd H4 d (.lst [.int m5])) d (.lst [.int m6]) = H5 at hd5 he5 hR5 sg5 nt na ⊢
      clear x5 hR4 he4 hd4 sg4 H4
      have st := same_new (o := .tup []) nt
      have sa := same_new (o := .lst [.str z, .int (1 + lo), .int (1 + lo + q), .bl (decide (q' > 0)), .ref t]) na
      have hrow : RowA (upd (upd H5 t (.tup [])) a (.lst [.str z, .int (1 + lo), .int (1 + lo + q), .bl (decide (q' > 0)), .ref t])) (a, t, ⟨z, 1 + lo, 1 + lo + q, decide (q' > 0), []⟩) := ⟨upd_same, sa _ _ upd_same⟩
      have hd6 := sa _ _ (st _ _ hd5)
      have he6 := sa _ _ (st _ _ he5)
      have hR6 := hR5.ext (st.trans sa)
      have sg6 := sg5.s (st.trans sa)
      have nad : a ≠ d := (ne_of_none (st _ _ hd5) na).symm
      have nae : a ≠ e := (ne_of_none (st _ _ he5) na).symm
      have na0 : H a = none := by
        cases q : H a with
        | none => rfl
        | some o =>
          have := st _ _ (sg5 a o nad nae q)
          rw [na] at this
          cases this
      have nas : a ∉ ys.map (·.1) := fun hm => by
        obtain ⟨y, hy, e⟩ := List.mem_map.mp hm
        have := st _ _ (hR5.row y hy).1
        rw [e, na] at this
        cases this
      generalize hG : upd (upd H5 t (.tup [])) a (.lst [.str z, .int (1 + lo), .int (1 + lo + q), .bl (decide (q' > 0)), .ref t]) = H6 at hrow hd6 he6 hR6 sg6 ⊢
      clear hG sa st na nt hR5 he5 hd5 sg5 H5
      refine ⟨R, _, .ref a, rfl, rfl, hR6.hR, ?_, ?_⟩
      · rw [List.length_map]
        exact Nat.lt_of_le_of_lt hi6 (by decide)
      have hR7 := hR6.add hrow
      have nRd' : d ≠ R := nRd.symm
      refine ⟨fun b o h1 h2 h3 => ?_, ⟨m6, by rw [upd_ne nRd']; exact hd6⟩, ⟨m3, by rw [upd_ne nRe.symm]; exact he6⟩, ys ++ [(a, t, ⟨z, 1 + lo, 1 + lo + q, decide (q' > 0), []⟩)], _, _, _, hR7, by rw [List.length_append, hl]; rfl, ?_, ?_, ?_, ?_, rfl⟩
      · rw [upd_ne (ne_of_none h3 nR)]
        exact sg6 b o h1 h2 h3
      · rw [zs_add]
        exact nodup_add hz hzn
      · rw [List.map_append]
        exact nodup_add ha nas
      · intro y hy
        rcases List.mem_append.mp hy with hy | hy
        · exact hk y hy
        · rw [List.mem_singleton] at hy
          rw [hy]
          exact ⟨⟨hz1, hz8, by show 1 ≤ 1 + lo; omega, by show 1 + lo ≤ 1 + lo + q; omega, by show 1 + lo + q ≤ 6; omega⟩, rfl⟩
      · intro b hb
        rw [List.map_append] at hb
        rcases List.mem_append.mp hb with hb | hb
        · exact hfr b hb
        · have : b = a := by simpa using hb
          rw [this]
          exact na0
    · clear hRm hem hR0 s0 he0 hd0 H0 m
      rintro σ H1 ⟨sg, ⟨m, hd1⟩, ⟨me, he1⟩, ys, v5, v6, v8, hR, hl, hz, ha, hk, hfr, rfl⟩
      have hn1 : 1 ≤ ys.length := by omega
      have hn6 : ys.length ≤ 6 := by omega
      have hlz : (zsOf ys).length = ys.length := List.length_map ..
      refine ⟨_, rfl, R, _, rfl, .inl (SqL.of hR.hR), _, rfl, by rw [List.length_map]; omega, by rw [List.length_map]; omega, ?_⟩
      rw [List.length_map]
      refine for_range (lo := 0) (n := (ys.length : Int).toNat) (fun i σ H' => Same2 d e H H' ∧ (∃ m : Int, H' d = some (.lst [.int m])) ∧ (∃ m : Int, H' e = some (.lst [.int m])) ∧ ∃ (ys' : List PgE) (v5 v7 v9 v10 v11 v12 : Option V), RowsA H' R ys' ∧ ys'.length = ys.length ∧ zsOf ys' = zsOf ys ∧ ys'.map (·.1) = ys.map (·.1) ∧ (∀ y ∈ ys', RowK y.2.2) ∧ (∀ y ∈ ys', (∀ v ∈ y.2.2.ns, v ∈ zsOf ys) ∧ y.2.2.ns.Nodup) ∧
        σ = [some (.ref d), some (.ref e), some (.int mn), some (.int lg), some (.ref R), v5, v6, v7, v8, v9, v10, v11, v12]) ⟨sg, ⟨m, hd1⟩, ⟨me, he1⟩, ys, _, none, none, none, none, none, hR, rfl, rfl, rfl, (fun y hy => (hk y hy).1), (fun y hy => by rw [(hk y hy).2]; exact ⟨(fun _ h => nomatch h), List.nodup_nil⟩), rfl⟩ ?_ ?_
      · clear hR hd1 he1 sg m me hk H1
        rintro i σ H1 hi ⟨sg, ⟨m, hd1⟩, ⟨me, he1⟩, ys', v5, v7, v9, v10, v11, v12, hR, hl', hz', ha', hk, hns, rfl⟩
        have hne : ys' ≠ [] := fun z => by rw [z] at hl'; simp at hl'; omega
        refine ⟨_, rfl, _, rfl, R, _, rfl, .inl (SqL.of hR.hR), d, m, _, rfl, hd1, by rw [List.length_map, hl']; omega, by rw [List.length_map, hl']; omega, fun sh m2 sh0 sh1 => ?_⟩
        rw [List.length_map, hl'] at sh1
        refine ⟨_, rfl, d, m2, 2, rfl, upd_same, by decide, by decide, fun q m3 q0 q1 => ⟨2, q, rfl, rfl, .inl ⟨by decide, by decide⟩, 1, 2 * q, rfl, rfl, (by show 0 ≤ sizeLine; decide), fun F nF => ?_⟩⟩
        have hw : 1 - 2 * q = 1 ∨ 1 - 2 * q = -1 := by omega
        have x2 : SameX d H1 (upd (upd H1 d (.lst [.int m2])) d (.lst [.int m3])) := SameX.upd.trans SameX.upd
        have hd2 : (upd (upd H1 d (.lst [.int m2])) d (.lst [.int m3])) d = some (.lst [.int m3]) := upd_same
        have hR2 := hR.extX hd1 x2
        have sg2 := sg.x x2
        generalize upd (upd H1 d (.lst [.int m2])) d (.lst [.int m3]) = H2 at nF x2 hd2 hR2 sg2 ⊢
        have he2 := x2 _ _ nde.symm he1
        have nFd : F ≠ d := (ne_of_none hd2 nF).symm
        have nFe : F ≠ e := (ne_of_none he2 nF).symm
        have nF0 : H F = none := by
          cases hF : H F with
          | none => rfl
          | some o =>
            have := sg2 F o nFd nFe hF
            rw [nF] at this
            cases this
        have sF := same_new (o := .lst []) nF
        have hF3 : (upd H2 F (.lst [])) F = some (.lst ([] : List V)) := upd_same
        have hd3 := sF _ _ hd2
        have he3 := sF _ _ he2
        have hR3 := hR2.ext sF
        have sg3 := sg2.s sF
        generalize upd H2 F (.lst []) = H3 at hF3 hd3 he3 hR3 sg3 ⊢
        clear sF sg2 hR2 hd2 he2 x2 nF hR hd1 he1 sg H2
        refine ⟨_, rfl, R, _, rfl, .inl (SqL.of hR3.hR), _, rfl, by rw [List.length_map]; omega, by rw [List.length_map]; omega, ?_⟩
        rw [List.length_map, hl']
        refine for_range (lo := 0) (n := (ys.length : Int).toNat) (fun j σ H' => Same2 d e H H' ∧ (∃ m : Int, H' d = some (.lst [.int m])) ∧ (∃ m : Int, H' e = some (.lst [.int m])) ∧ RowsA H' R ys' ∧ ∃ (fs : List Str) (v12 : Option V), H' F = some (.lst (fs.map V.str)) ∧ fs.Nodup ∧ fs.length ≤ j ∧ (∀ y ∈ fs, ∃ j' i : Nat, j' < j ∧ (i : Int) = (sh + (1 - 2 * q) * (j' : Int)) % (ys.length : Int) ∧ (zsOf ys)[i]? = some y) ∧
          σ = [some (.ref d), some (.ref e), some (.int mn), some (.int lg), some (.ref R), some (.int (0 + (i : Int))), v6, v7, v8, some (.int sh), some (.int (1 - 2 * q)), some (.ref F), v12]) ⟨sg3, ⟨m3, hd3⟩, ⟨me, he3⟩, hR3, [], v12, hF3, List.nodup_nil, Nat.zero_le _, (fun _ h => nomatch h), rfl⟩ ?_ ?_
        · clear hF3 hd3 he3 hR3 sg3 H3
          rintro j σ H3 hj ⟨sg, ⟨m, hd⟩, ⟨me, he⟩, hR, fs, v12, hF, hfn, hfl, hfs, rfl⟩
          refine ⟨_, rfl, d, m, 3, rfl, hd, by decide, by decide, fun q3 m' q30 q31 => ⟨q3, 0, rfl, rfl, _, rfl, ?_⟩⟩
          have x4 := SameX.upd (d := d) (H := H3) (o := .lst [.int m'])
          have hR4 := hR.extX hd x4
          have hF4 := x4 _ _ nFd hF
          have he4 := x4 _ _ nde.symm he
          have hd4 : (upd H3 d (.lst [.int m'])) d = some (.lst [.int m']) := upd_same
          have sg4 := sg.x x4
          generalize upd H3 d (.lst [.int m']) = H4 at hR4 hF4 he4 hd4 sg4 ⊢
          refine ite2 (fun _ => ?_) fun _ => ?_
          · have hz0 : (0 : Int) < ys.length := by omega
            have b0 := Int.emod_nonneg (sh + (1 - 2 * q) * (0 + (j : Int))) (b := (ys.length : Int)) (by omega)
            have b1 := Int.emod_lt_of_pos (sh + (1 - 2 * q) * (0 + (j : Int))) hz0
            obtain ⟨x, hx⟩ : ∃ x : Nat, (x : Int) = (sh + (1 - 2 * q) * (0 + (j : Int))) % (ys.length : Int) := ⟨((sh + (1 - 2 * q) * (0 + (j : Int))) % (ys.length : Int)).toNat, by omega⟩
            have hxl : x < ys'.length := by omega
            have hyx : ys'[x]? = some ys'[x] := List.getElem?_eq_getElem hxl
            generalize ys'[x] = y at hyx
            have hya := (hR4.row y (List.mem_of_getElem? hyx)).1
            have a1 : atI (ys'.map fun y => V.ref y.1) ((sh + (1 - 2 * q) * (0 + (j : Int))) % (((ys'.map fun y => V.ref y.1).length : Nat) : Int)) = some (.ref y.1) := by
              rw [List.length_map, hl', ← hx]
              exact atI_nat (by rw [List.getElem?_map, hyx]; rfl)
            have hzx : (zsOf ys)[x]? = some y.2.2.z := by
              rw [← hz', zsOf, List.getElem?_map, hyx]
              rfl
            refine ⟨_, rfl, .inl ⟨rfl, _, SqL.of hF4⟩, _, rfl, _, rfl, _, rfl, _, rfl, 1 - 2 * q, _, rfl, rfl, .inl ⟨by rcases hw with h | h <;> rw [h] <;> decide, by rcases hw with h | h <;> rw [h] <;> decide⟩, sh, _, rfl, rfl, _, rfl, R, _, rfl, .inl (SqL.of hR4.hR), _, _, rfl, rfl, (by show (0 : Int) < ((ys'.map fun y => V.ref y.1).length : Nat); rw [List.length_map, hl']; exact hz0), R, _, _, .ref y.1, rfl, rfl, SqL.of hR4.hR, a1, y.1, _, 0, .str y.2.2.z, rfl, rfl, SqL.of hya, atI0, F, _, .str y.2.2.z, rfl, rfl, hF4, ?_, ?_⟩
            · rw [List.length_map]
              exact Nat.lt_of_le_of_lt (show fs.length ≤ 6 by omega) (by decide)
            have hnot : y.2.2.z ∉ fs := fun hm => by
              obtain ⟨j', i', h1, h2, h3⟩ := hfs _ hm
              have hlt2 : x < (zsOf ys).length := by omega
              have e1 : x = i' := (List.getElem?_inj hlt2 hz).mp (hzx.trans h3.symm)
              have e2 : (sh + (1 - 2 * q) * (j' : Int)) % (ys.length : Int) = (sh + (1 - 2 * q) * (j : Int)) % (ys.length : Int) := by
                rw [← h2, ← e1, hx, Int.zero_add]
              have e3 := mod_inj (by omega) (by omega) hw (by omega) (by omega) (by omega) (by omega) e2
              omega
            refine ⟨fun b o h1 h2 h3 => ?_, ⟨m', by rw [upd_ne nFd.symm]; exact hd4⟩, ⟨me, by rw [upd_ne nFe.symm]; exact he4⟩, hR4.extF hne hF4 SameX.upd, fs ++ [y.2.2.z], _, by rw [upd_same, List.map_append]; rfl, nodup_add hfn hnot, by rw [List.length_append]; exact Nat.succ_le_succ hfl, fun v hv => ?_, rfl⟩
            · rw [upd_ne (ne_of_none h3 nF0)]
              exact sg4 b o h1 h2 h3
            · rcases List.mem_append.mp hv with hv | hv
              · obtain ⟨j', i', h1, h2, h3⟩ := hfs v hv
                exact ⟨j', i', by omega, h2, h3⟩
              · rw [List.mem_singleton] at hv
                rw [hv]
                refine ⟨j, x, by omega, ?_, hzx⟩
                rw [hx, Int.zero_add]
          · exact ⟨sg4, ⟨m', hd4⟩, ⟨me, he4⟩, hR4, fs, _, hF4, hfn, by omega, fun y hy => by
              obtain ⟨j', i', h1, h2, h3⟩ := hfs y hy
              exact ⟨j', i', by omega, h2, h3⟩, rfl⟩
        · clear hF3 hd3 he3 hR3 sg3 H3
          rintro σ H3 ⟨sg, ⟨m, hd⟩, ⟨me, he⟩, hR, fs, v12, hF, hfn, hfl, hfs, rfl⟩
          have hil : i < ys'.length := by omega
          have hyi : ys'[i]? = some ys'[i] := List.getElem?_eq_getElem hil
          generalize ys'[i] = y at hyi
          have a1 : atI (ys'.map fun y => V.ref y.1) (0 + (i : Int)) = some (.ref y.1) := by
            rw [Int.zero_add]
            exact atI_nat (by rw [List.getElem?_map, hyi]; rfl)
          refine ⟨_, rfl, _, rfl, R, _, _, .ref y.1, rfl, rfl, SqL.of hR.hR, a1, ?_⟩
          refine ⟨_, rfl, F, _, rfl, .inl ⟨SqL.of hF, fun t nt => ?_⟩⟩
          have st := same_new (o := .tup (fs.map V.str)) nt
          have ht : (upd H3 t (.tup (fs.map V.str))) t = some (.tup (fs.map V.str)) := upd_same
          have hR4 := hR.ext st
          have hd4 := st _ _ hd
          have he4 := st _ _ he
          have sg4 := sg.s st
          generalize upd H3 t (.tup (fs.map V.str)) = H4 at ht hR4 hd4 he4 sg4 ⊢
          have hya := (hR4.row y (List.mem_of_getElem? hyi)).1
          have nyd := (RowA.ne_int (hR4.row y (List.mem_of_getElem? hyi)) hd4).1
          have nye := (RowA.ne_int (hR4.row y (List.mem_of_getElem? hyi)) he4).1
          have nty : t ≠ y.1 := ne_of ht hya (by intro z; cases z)
          refine ⟨_, rfl, y.1, _, 4, 4, rfl, rfl, hya, ixN4, ?_⟩
          have hput := hR4.put (r := ⟨y.2.2.z, y.2.2.l, y.2.2.m, y.2.2.b, fs⟩) (by rw [ha']; exact ha) hyi ht nty
          have ny0 : H y.1 = none := hfr _ (ha' ▸ List.mem_map_of_mem (List.mem_of_getElem? hyi))
          refine ⟨fun b o h1 h2 h3 => ?_, ⟨m, by rw [upd_ne nyd.symm]; exact hd4⟩, ⟨me, by rw [upd_ne nye.symm]; exact he4⟩, _, _, _, _, _, _, _, hput, by rw [List.length_set]; exact hl', (set_zs (r := ⟨y.2.2.z, y.2.2.l, y.2.2.m, y.2.2.b, fs⟩) hyi rfl).trans hz', (set_ad hyi).trans ha', fun v hv => ?_, fun v hv => ?_, rfl⟩
          · rw [upd_ne (ne_of_none h3 ny0)]
            exact sg4 b o h1 h2 h3
          · rcases List.mem_or_eq_of_mem_set hv with hv | rfl
            · exact hk v hv
            · exact hk y (List.mem_of_getElem? hyi)
          · rcases List.mem_or_eq_of_mem_set hv with hv | rfl
            · exact hns v hv
            · refine ⟨fun x hx => ?_, hfn⟩
              obtain ⟨_, i', _, _, h3⟩ := hfs x hx
              exact List.mem_of_getElem? h3
      · rintro σ H2 ⟨sg, hd2, _, ys', v5, v7, v9, v10, v11, v12, hR, hl', hz', ha', hk, hns, rfl⟩
        exact ⟨_, rfl, k H2 R ys' sg hd2 hR ⟨by rw [hz']; exact hz, by omega, by omega, hk, fun y hy => by rw [hz']; exact hns y hy⟩ (by rw [ha']; exact ha) nR⟩
end
end K36

set_option Elab.async false
set_option linter.all false
set_option pp.deepTerms.threshold 14
set_option pp.maxSteps 2500
set_option maxRecDepth 100000
set_option maxHeartbeats 2000000
namespace K36
open PySem PySem.Spec PyProof.Rows L2 Vf
section
variable {P : Program} {w : World} {K : PySem.W.Frag} {mg : Str → Option Value} {base : Heap}
theorem sc_law_nexts : FnScope ["_law_rows_here", "_law_table", "_law_row_here"] ["_law_rows_here"] (defScope s_law_nexts) := ⟨rfl, rfl, rfl, by decide +kernel, rfl, by decide +kernel, by decide +kernel⟩
-- slots: 0 _law_rows_here, 1 _law_table, 2 _law_row_here
def spNxL : Sp := fun vs H Q _ => ∃ (R : Addr) (ys : List PgE), vs = [.ref R] ∧ RowsA H R ys ∧ (zsOf ys).Nodup ∧ ys.length ≤ 6 ∧ ∀ H' N, Same H H' → H N = none → H' N = some (.dK (kvN ys)) → Q (.ref N) H'
theorem ok_law_nexts {fd : FuncData} (F : FnD K ("_law_nexts", none) "_law_nexts" "_law_nexts" s_law_nexts fd) (T : Txt K mg) : OkF P w K mg base CX0 1 "_law_nexts" ["_law_rows_here"] spNxL := by
  refine okd F (F.ok sc_law_nexts (fun vs H Q E h => ?_) fun cdv A outer s H vs Q E hr h => ?_) fun _ _ _ _ _ _ us hl => match us, hl with | [_], _ => rfl
  · obtain ⟨R, ys, rfl, _⟩ := h
    rfl
  · obtain ⟨R, ys, rfl, hR, hz, h6, k⟩ := h
    refine ⟨_, PSs.nox (pss_cons (ps_set (i := 1) sc_law_nexts.nd rfl (Or.inl rfl) pe_dnewK)
  (pss_cons (ps_for PassesOwn.never rfl (pi_list (pv 0)) (pg_name (i := 2) sc_law_nexts.nd rfl (Or.inl rfl))
  (pss_one (ps_dput (hu_of hr) (pv 1) (pe_ix ix_list (pv 2) pe_int (fun _ _ => rfl)) (pe_ix ix_list (pv 2) pe_int (fun _ _ => rfl)) rfl)))
  (pss_one (ps_ret (pv 1))))), ?_⟩
    intro N nN
    have s1 := same_new (o := .dK []) nN
    have hN : (upd H N (.dK [])) N = some (.dK []) := upd_same
    have hR1 := hR.ext s1
    have s0 : ∀ {H' : Hp}, SameX N (upd H N (.dK [])) H' → Same H H' := fun x b o h => x b o (ne_of_none h nN) (s1 _ _ h)
    generalize upd H N (.dK []) = H1 at s1 hN hR1 s0 ⊢
    have keep : ∀ {H' : Hp}, SameX N H1 H' → RowsA H' R ys := fun x => ⟨x _ _ (ne_of hR1.hR hN (by intro z; cases z)) hR1.hR, fun y hy => ⟨x _ _ (ne_of (hR1.row y hy).1 hN (by intro z; cases z)) (hR1.row y hy).1, x _ _ (ne_of (hR1.row y hy).2 hN (by intro z; cases z)) (hR1.row y hy).2⟩⟩
    refine ⟨_, rfl, R, rfl, ⟨_, SqL.of hR1.hR⟩, for_it walk_list (fun i σ H' => SameX N H1 H' ∧ H' N = some (.dK ((ys.take i).map fun y => ((Sum.inr y.2.2.z : Key), V.ref y.2.1))) ∧ ∃ v : Option V, σ = [some (.ref R), some (.ref N), v]) ⟨fun _ _ _ h => h, hN, none, rfl⟩ (fun i σ H' _ h => SqL.of (keep h.1).hR) ?_ ?_⟩
    · rintro i x σ H2 H' hi ⟨sx, hN2, v, rfl⟩ ⟨rfl, hx⟩
      obtain ⟨y, hy, rfl⟩ := getE hx
      have hya := ((keep sx).row y (List.mem_of_getElem? hy)).1
      refine ⟨_, rfl, y.1, _, 4, .ref y.2.1, rfl, rfl, SqL.of hya, atI_nat (j := 4) rfl, _, rfl, _, rfl, y.1, _, 0, .str y.2.2.z, rfl, rfl, SqL.of hya, atI0, N, _, rfl, DPut.k (k := Sum.inr y.2.2.z) hN2 ?_, sx.trans SameX.upd, ?_, _, rfl⟩
      · rw [List.length_map, List.length_take]
        rw [List.length_map] at hi
        exact Nat.lt_of_le_of_lt (Nat.min_le_left _ _) (Nat.lt_of_lt_of_le hi (Nat.le_trans h6 (by decide)))
      · rw [upd_same, put_row (f := fun y => V.ref y.2.1) hz hy]
    · rintro σ H2 ⟨sx, hN2, v, rfl⟩
      rw [List.length_map, List.take_length] at hN2
      exact ⟨_, rfl, k H2 N (s0 sx) nN hN2⟩
theorem sc_law_program : FnScope ["_law_rows_here", "_law_begin", "_law_places", "_law_row_here"] ["_law_rows_here", "_law_begin"] (defScope s_law_program) := ⟨rfl, rfl, rfl, by decide +kernel, rfl, by decide +kernel, by decide +kernel⟩
-- slots: 0 _law_rows_here, 1 _law_begin, 2 _law_places, 3 _law_row_here
/-- the row beside the place that is made of it -/
def Beside (xs ys : List PgE) : Prop := xs.map (·.2) = ys.map (·.2)
theorem Beside.zs {xs ys : List PgE} (h : Beside xs ys) : zsOf xs = zsOf ys := by
  have := congrArg (List.map fun x : Addr × Rw => x.2.z) h
  rw [List.map_map, List.map_map] at this
  exact this
theorem Beside.len {xs ys : List PgE} (h : Beside xs ys) : xs.length = ys.length := by
  have := congrArg List.length h
  simpa using this
theorem Beside.get {xs ys : List PgE} (h : Beside xs ys) {i : Nat} {x : PgE} (hx : xs[i]? = some x) : ∃ y, ys[i]? = some y ∧ y.2 = x.2 := by
  have h1 : (xs.map (·.2))[i]? = some x.2 := by rw [List.getElem?_map, hx]; rfl
  rw [h, List.getElem?_map] at h1
  cases hq : ys[i]? with
  | none => rw [hq] at h1; cases h1
  | some y =>
    rw [hq] at h1
    exact ⟨y, rfl, Option.some.inj h1⟩
theorem Beside.mem {xs ys : List PgE} (h : Beside xs ys) {x : PgE} (hx : x ∈ xs) : ∃ y ∈ ys, y.2 = x.2 := by
  obtain ⟨i, hi⟩ := List.mem_iff_getElem?.mp hx
  obtain ⟨y, hy, e⟩ := h.get hi
  exact ⟨y, List.mem_of_getElem? hy, e⟩
theorem Beside.kvN {xs ys : List PgE} (h : Beside xs ys) : kvN xs = kvN ys := by
  have := congrArg (List.map fun x : Addr × Rw => ((Sum.inr x.2.z : Key), V.ref x.1)) h
  rw [List.map_map, List.map_map] at this
  exact this
def spPrL (K : PySem.W.Frag) : Sp := fun vs H Q _ => ∃ (R : Addr) (ys : List PgE) (s : Str), vs = [.ref R, .str s] ∧ RowsA H R ys ∧ RowsOk ys ∧ s ∈ zsOf ys ∧ ∀ H' g xs dx tn dP dN, Same H H' → PgA K H' g xs s dx tn dP dN → Beside xs ys → H dP = none → H dN = none → Q (.ref g) H'
theorem ok_law_program {fd : FuncData} (F : FnD K ("_law_program", none) "_law_program" "_law_program" s_law_program fd) (T : Txt K mg) (O_law_nexts : OkF P w K mg base CX0 1 "_law_nexts" ["_law_rows_here"] spNxL)
    (O_Place_init3k : OkK P w K mg base (L2.CX P w) 4 ("Place", some "__init__") ["self", "name", "least", "most", "let"] 4 ["let"] (fun vs zs => vs ++ zs) (spPlI K)) (O_Program_init2k : OkK P w K mg base (L2.CX P w) 5 ("Program", some "__init__") ["self", "places", "nexts", "start"] 3 ["start"] (fun vs zs => vs ++ zs) (spPgI K)) : OkF P w K mg base CX0 7 "_law_program" ["_law_rows_here", "_law_begin"] (spPrL K) := by
  refine okd F (F.ok sc_law_program (fun vs H Q E h => ?_) fun cdv A outer s H vs Q E hr h => ?_) fun _ _ _ _ _ _ us hl => match us, hl with | [_, _], _ => rfl
  · obtain ⟨R, ys, z, rfl, _⟩ := h
    rfl
  · obtain ⟨R, ys, z, rfl, hR, hok, hz, k⟩ := h
    refine ⟨_, PSs.nox (pss_cons (ps_setLc (i := 2) (own := [("_law_row_here", 3)]) (g := gName 3) (tt := tYes) (by rfl) sc_law_program.nd rfl rfl (sw_true rfl rfl rfl (by decide +kernel)) (pi_list (pv 0)) (blkOk_by (N := ["_law_rows_here", "_law_begin", "_law_places", "_law_row_here"]) (sc := defScope s_law_program) (by decide +kernel)) (fun _ _ _ _ _ => (pg_name (i := 3) sc_law_program.nd rfl (Or.inl rfl))) (fun _ _ _ _ _ => pts_nil) (fun _ _ _ _ _ => (c_mkK T.m_Place O_Place_init3k hr (by decide) T.g_Place passL (pa_cons (pe_ix (ix_listK (K := K) rfl) (pv 3) pe_int (fun _ _ => rfl)) (pa_cons (pe_ix (ix_listK (K := K) rfl) (pv 3) pe_int (fun _ _ => rfl)) (pa_cons (pe_ix (ix_listK (K := K) rfl) (pv 3) pe_int (fun _ _ => rfl)) pa_nil))) (pk_cons (pe_ix (ix_listK (K := K) rfl) (pv 3) pe_int (fun _ _ => rfl)) pk_nil))))
  (pss_one (ps_ret (c_mkK T.m_Program O_Program_init2k hr (by decide) T.g_Program passL (pa_cons (pv 2) (pa_cons (c_fn O_law_nexts hr (by decide) T.g_law_nexts pass0 (pa_cons (pv 0) pa_nil)) pa_nil)) (pk_cons (pv 1) pk_nil))))), ?_⟩
    refine ⟨_, rfl, R, rfl, ⟨_, SqL.of hR.hR⟩, fun D nD => lc_it walk_list (fun i H' => Same H H' ∧ ∃ xs : List PgE, H' D = some (.lst (xs.map fun x => V.ref x.1)) ∧ xs.map (·.2) = (ys.take i).map (·.2) ∧ ∀ x ∈ xs, PlE K H' x) ⟨same_new nD, [], upd_same, rfl, (fun _ h => nomatch h)⟩ (fun i H' _ h => h.1.seq (SqL.of hR.hR)) ?_ ?_⟩
    · rintro i x H1 H' hi ⟨sg, xs, hD, hb, hp⟩ ⟨rfl, hx⟩
      obtain ⟨y, hy, rfl⟩ := getE hx
      have hm := List.mem_of_getElem? hy
      have hya := SqL.of (K := K) ((hR.ext sg).row y hm).1
      obtain ⟨k1, k2, k3, k4, k5⟩ := hok.kp y hm
      have hxl : xs.length ≤ 6 := by
        have := congrArg List.length hb
        simp only [List.length_map, List.length_take] at this
        have := hok.l6
        omega
      refine ⟨rfl, _, rfl, y.1, _, 0, .str y.2.2.z, rfl, rfl, hya, atI0, _, rfl, y.1, _, 1, .int y.2.2.l, rfl, rfl, hya, atI_nat (j := 1) rfl, _, rfl, y.1, _, 2, .int y.2.2.m, rfl, rfl, hya, atI_nat (j := 2) rfl, _, rfl, y.1, _, 3, .bl y.2.2.b, rfl, rfl, hya, atI_nat (j := 3) rfl, rfl, rfl, fun p dx np ndx ne => ⟨p, dx, _, _, _, _, rfl, upd_same, .inr ⟨y.2.2.z, y.2.2.l, y.2.2.m, y.2.2.b, ⟨rfl, Nat.le_trans k2 (by decide), k1, rfl, k3, k4, k5, .inl rfl, rfl⟩, fun H2 s2 => ⟨rfl, ?_⟩⟩⟩⟩
      have sm : Same H' (upd H2 p (.ins (CP K) dx (plf y.2.2.z y.2.2.l y.2.2.m y.2.2.b))) := fun b' u e => by
        rw [upd_ne (ne_of_none e np)]
        exact s2 _ _ (same_make np ndx _ _ e)
      have hpl : PlE K (upd H2 p (.ins (CP K) dx (plf y.2.2.z y.2.2.l y.2.2.m y.2.2.b))) (p, y.2) := ⟨dx, upd_same⟩
      generalize upd H2 p (.ins (CP K) dx (plf y.2.2.z y.2.2.l y.2.2.m y.2.2.b)) = H3 at sm hpl ⊢
      have hD3 := sm _ _ hD
      have old : ∀ x ∈ xs ++ [(p, y.2)], PlE K H3 x := fun x hx => by
        rcases List.mem_append.mp hx with hx | hx
        · exact (hp x hx).ext sm
        · rw [List.mem_singleton] at hx
          rw [hx]
          exact hpl
      refine ⟨_, hD3, ?_, same_app sg sm nD, xs ++ [(p, y.2)], by rw [upd_same, List.map_append]; rfl, ?_, fun x hx => ?_⟩
      · rw [List.length_map]
        exact Nat.lt_of_le_of_lt hxl (by decide)
      · rw [List.map_append, hb, List.take_add_one, List.map_append, hy]
        rfl
      · obtain ⟨d1, e1⟩ := old x hx
        exact ⟨d1, by rw [upd_ne (ne_of e1 hD3 (by intro z; cases z))]; exact e1⟩
    rintro H1 ⟨s1, xs, hD, hb, hp⟩
    rw [List.length_map, List.take_length] at hb
    have hB : Beside xs ys := hb
    have hR1 := hR.ext s1
    refine ⟨_, rfl, _, rfl, R, ys, rfl, hR1, hok.nd, hok.l6, fun H2 N s2 nN hN => ⟨_, rfl, rfl, rfl, fun g dx ng ndx ne => ?_⟩⟩
    have sm := same_make (o1 := .own g) (o2 := .ins (CG K) dx []) ng ndx
    have hparts : PartsOk K H2 HO.lst D N xs := by
      refine ⟨s2 _ _ hD, fun x hx => (hp x hx).ext s2, ⟨kvN ys, hN, ?_, fun x hx => ?_⟩, fun x hx => ?_, by rw [hB.zs]; exact hok.nd, by rw [hB.len]; exact hok.l1, by rw [hB.len]; exact hok.l6, fun v hv => ?_, .inl rfl⟩
      · rw [← hB.kvN]
        exact List.length_map ..
      · obtain ⟨i, hi⟩ := List.mem_iff_getElem?.mp hx
        have hzx : (zsOf xs).Nodup := by rw [hB.zs]; exact hok.nd
        rw [← hB.kvN]
        exact val_row (f := fun y => V.ref y.2.1) hzx hi
      · obtain ⟨y, hy, e⟩ := hB.mem hx
        have h1 := ((hR1.ext s2).row y hy).2
        have h2 := hok.ns y hy
        unfold NsE
        rw [← e]
        refine ⟨h1, fun v hv => by rw [hB.zs]; exact h2.1 v hv, h2.2, ?_⟩
        have := nodup_le h2.2 h2.1
        have h3 : (zsOf ys).length = ys.length := List.length_map ..
        have := hok.l6
        omega
      · rw [hB.zs] at hv
        obtain ⟨y, hy, rfl⟩ := List.mem_map.mp hv
        exact (hok.kp y hy).1
    refine ⟨g, dx, D, N, _, xs, _, z, rfl, upd_same, hparts.ext sm, by rw [hB.zs]; exact hz, .inl rfl, fun H3 dx3 tn dP dN x3 hpg nP nN2 => ⟨rfl, ?_⟩⟩
    have s3 : Same H2 H3 := fun b o e => x3 b o (ne_of_none e ng) (sm _ _ e)
    have back : ∀ {b : Addr}, (upd (upd H2 dx (.own g)) g (.ins (CG K) dx [])) b = none → H b = none := fun {b} e => by
      cases q : H b with
      | none => rfl
      | some o =>
        have := sm _ _ (s2 _ _ (s1 _ _ q))
        rw [e] at this
        cases this
    exact k H3 g xs dx3 tn dP dN (s1.trans (s2.trans s3)) hpg hB (back nP) (back nN2)
end
end K36

set_option Elab.async false
set_option linter.all false
set_option pp.deepTerms.threshold 14
set_option pp.maxSteps 2500
set_option maxRecDepth 100000
set_option maxHeartbeats 2000000
namespace K36
open PySem PySem.Spec PyProof.Rows L2 Vf
section
variable {P : Program} {w : World} {K : PySem.W.Frag} {mg : Str → Option Value} {base : Heap}
theorem sc_law_is_integer : FnScope ["_law_value"] ["_law_value"] (defScope s_law_is_integer) := ⟨rfl, rfl, rfl, by decide +kernel, rfl, by decide +kernel, by decide +kernel⟩
-- slots: 0 _law_value
theorem ok_law_is_integer {fd : FuncData} (F : FnD K ("_law_is_integer", none) "_law_is_integer" "_law_is_integer" s_law_is_integer fd) (T : Txt K mg) : OkF P w K mg base CX0 1 "_law_is_integer" ["_law_value"] spIsInt := by
  refine okd F (F.ok sc_law_is_integer (fun vs H Q E h => ?_) fun cdv A outer s H vs Q E hr h => ⟨t_isint K, PSs.nox ?_, run_isint h⟩) fun _ _ _ _ _ _ us hl => match us, hl with | [_], _ => rfl
  · obtain ⟨x, rfl, _⟩ := h
    rfl
  · exact (pss_one (ps_ret (pe_and (pe_callB (id := "isinstance") call_isi (by rfl) T.z_isinstance (by decide +kernel) (pa_cons (pv 0) (pa_cons (pe_ty (n := "int") T.z_int (by decide +kernel)) pa_nil))) (pe_one (pe_not (pe_callB (id := "isinstance") call_isi (by rfl) T.z_isinstance (by decide +kernel) (pa_cons (pv 0) (pa_cons (pe_ty (n := "bool") T.z_bool (by decide +kernel)) pa_nil))))))))
/-- the list of a sampler's values -/
structure SpA (H : Hp) (s : Addr) (n i : Int) (f : V) : Prop where
  hs : H s = some (.lst [.int n, .int i, f])
  n1 : 1 ≤ n
  n8 : n ≤ 8
  i0 : 0 ≤ i
  i1 : i ≤ n - 1
  hf : PhOk f n
theorem SpA.ext {H H' : Hp} {s : Addr} {n i : Int} {f : V} (h : SpA H s n i f) (e : Same H H') : SpA H' s n i f := ⟨e _ _ h.hs, h.n1, h.n8, h.i0, h.i1, h.hf⟩
theorem ixN2 {n : Nat} : ixN (n + 3) 2 = some 2 := by
  unfold ixN
  rw [if_pos (by omega), if_pos (by omega)]
  rfl
theorem sc_law_spec : FnScope ["_law_draw", "_law_longest", "_law_spec_here", "_law_shift"] ["_law_draw", "_law_longest"] (defScope s_law_spec) := ⟨rfl, rfl, rfl, by decide +kernel, rfl, by decide +kernel, by decide +kernel⟩
-- slots: 0 _law_draw, 1 _law_longest, 2 _law_spec_here, 3 _law_shift
def spSpec : Sp := fun vs H Q _ => ∃ (d : Addr) (n lg : Int), vs = [.ref d, .int lg] ∧ H d = some (.lst [.int n]) ∧ 1 ≤ lg ∧ lg ≤ 8 ∧ ∀ (H' : Hp) (s : Addr) (m p i : Int) (f : V), SameX d H H' → H' d = some (.lst [.int m]) → H s = none → SpA H' s p i f → p ≤ lg → Q (.ref s) H'
theorem ok_law_spec {fd : FuncData} (F : FnD K ("_law_spec", none) "_law_spec" "_law_spec" s_law_spec fd) (T : Txt K mg) (O_law_take : OkF P w K mg base CX0 1 "_law_take" ["_law_draw", "_law_size"] spTake) : OkF P w K mg base CX0 2 "_law_spec" ["_law_draw", "_law_longest"] spSpec := by
  refine okd F (F.ok sc_law_spec (fun vs H Q E h => ?_) fun cdv A outer s H vs Q E hr h => ?_) fun _ _ _ _ _ _ us hl => match us, hl with | [_, _], _ => rfl
  · obtain ⟨d, n, lg, rfl, _⟩ := h
    rfl
  · obtain ⟨d, n, lg, rfl, hd, l1, l8, k⟩ := h
    refine ⟨_, PSs.nox (pss_cons (ps_set (i := 2) sc_law_spec.nd rfl (Or.inl rfl) (pe_lst (pa_cons (pe_op op_add pe_int (c_fn O_law_take hr (by decide) T.g_law_take pass0 (pa_cons (pv 0) (pa_cons (pv 1) pa_nil)))) pa_nil)))
  (pss_cons (ps_expr (pe_bm PySem.F.plainAttrs_list PySem.F.slot_list_append PySem.F.type_list_append mt_append (pv 2) (pa_cons (c_fn O_law_take hr (by decide) T.g_law_take pass0 (pa_cons (pv 0) (pa_cons (pe_ix ix_list (pv 2) pe_int (fun _ _ => rfl)) pa_nil))) pa_nil)))
  (pss_cons (ps_set (i := 3) sc_law_spec.nd rfl (Or.inl rfl) (c_fn O_law_take hr (by decide) T.g_law_take pass0 (pa_cons (pv 0) (pa_cons (pe_op op_add (pe_ix ix_list (pv 2) pe_int (fun _ _ => rfl)) pe_int) pa_nil))))
  (pss_cons (ps_expr (pe_bm PySem.F.plainAttrs_list PySem.F.slot_list_append PySem.F.type_list_append mt_append (pv 2) (pa_cons (pv 3) pa_nil)))
  (C8.pss_cut (ps_if (pt_cmpR op_eq (pv 3) (pe_ix ix_list (pv 2) pe_int (fun _ _ => rfl)) (nomark _)) (pss_one (ps_asg pe_non (pg_sub (pv 2) pe_int set_list)))
  pss_nil)
  (pss_one (ps_ret (pv 2)))))))), ?_⟩
    refine ⟨_, rfl, _, rfl, d, n, lg, rfl, hd, by omega, by omega, fun q m q0 q1 => ⟨1, q, rfl, rfl, (by show 1 ≤ sizeLine; decide), fun s ns => ?_⟩⟩
    have x1 : SameX d H (upd H d (.lst [.int m])) := SameX.upd
    have hd1 : (upd H d (.lst [.int m])) d = some (.lst [.int m]) := upd_same
    generalize upd H d (.lst [.int m]) = H1 at x1 hd1 ns ⊢
    have nsd : s ≠ d := (ne_of_none hd1 ns).symm
    have s2 := same_new (o := .lst [.int (1 + q)]) ns
    have hs2 : (upd H1 s (.lst [.int (1 + q)])) s = some (.lst [.int (1 + q)]) := upd_same
    have hd2 := s2 _ _ hd1
    have x2 := x1.trans (same_x (d := d) s2)
    have nH : H s = none := by
      cases e : H s with
      | none => rfl
      | some o =>
        have := x1 _ _ nsd e
        rw [ns] at this
        cases this
    generalize upd H1 s (.lst [.int (1 + q)]) = H2 at hs2 hd2 x2 ⊢
    clear s2 ns x1 hd1
    refine ⟨_, rfl, .inl ⟨rfl, _, SqL.of hs2⟩, _, rfl, _, rfl, s, _, 0, .int (1 + q), rfl, rfl, SqL.of hs2, atI0, d, m, 1 + q, rfl, hd2, by omega, by omega, fun i m2 i0 i1 => ?_⟩
    have hs3 : (upd H2 d (.lst [.int m2])) s = some (.lst [.int (1 + q)]) := by rw [upd_ne nsd]; exact hs2
    refine ⟨s, _, _, rfl, rfl, hs3, (by show 1 < sizeLine; decide), ?_⟩
    have hs4 : (upd (upd H2 d (.lst [.int m2])) s (.lst ([.int (1 + q)] ++ [.int i]))) s = some (.lst [.int (1 + q), .int i]) := upd_same
    have hd4 : (upd (upd H2 d (.lst [.int m2])) s (.lst ([.int (1 + q)] ++ [.int i]))) d = some (.lst [.int m2]) := by rw [upd_ne nsd.symm]; exact upd_same
    have x4 : SameX d H (upd (upd H2 d (.lst [.int m2])) s (.lst ([.int (1 + q)] ++ [.int i]))) := fun b o nb e => by
      rw [upd_ne (ne_of_none e nH), upd_ne nb]
      exact x2 b o nb e
    generalize upd (upd H2 d (.lst [.int m2])) s (.lst ([.int (1 + q)] ++ [.int i])) = H4 at hs4 hd4 x4 ⊢
    clear hs3 hs2 hd2 x2 H2 H1
    refine ⟨_, rfl, _, rfl, s, _, 0, .int (1 + q), rfl, rfl, SqL.of hs4, atI0, _, _, rfl, rfl, d, m2, 1 + q + 1, rfl, hd4, by omega, by omega, fun h m3 h0 h1 => ?_⟩
    have hs5 : (upd H4 d (.lst [.int m3])) s = some (.lst [.int (1 + q), .int i]) := by rw [upd_ne nsd]; exact hs4
    refine ⟨_, rfl, .inl ⟨rfl, _, SqL.of hs5⟩, _, rfl, s, _, _, rfl, rfl, hs5, (by show 2 < sizeLine; decide), ?_⟩
    have hs6 : (upd (upd H4 d (.lst [.int m3])) s (.lst ([.int (1 + q), .int i] ++ [.int h]))) s = some (.lst [.int (1 + q), .int i, .int h]) := upd_same
    have hd6 : (upd (upd H4 d (.lst [.int m3])) s (.lst ([.int (1 + q), .int i] ++ [.int h]))) d = some (.lst [.int m3]) := by rw [upd_ne nsd.symm]; exact upd_same
    have x6 : SameX d H (upd (upd H4 d (.lst [.int m3])) s (.lst ([.int (1 + q), .int i] ++ [.int h]))) := fun b o nb e => by
      rw [upd_ne (ne_of_none e nH), upd_ne nb]
      exact x4 b o nb e
    generalize upd (upd H4 d (.lst [.int m3])) s (.lst ([.int (1 + q), .int i] ++ [.int h])) = H6 at hs6 hd6 x6 ⊢
    refine ⟨fun σ' H' => σ' = [some (.ref d), some (.int lg), some (.ref s), some (.int h)] ∧ SameX d H H' ∧ H' d = some (.lst [.int m3]) ∧ ∃ f : V, SpA H' s (1 + q) i f, ?_, ?_⟩
    · refine ⟨_, rfl, _, rfl, s, _, 0, .int (1 + q), rfl, rfl, SqL.of hs6, atI0, rfl, _, rfl, ite2 (fun hc => ?_) fun hc => ?_⟩
      · refine ⟨_, rfl, s, _, 2, 2, rfl, rfl, hs6, ixN2, rfl, fun b o nb e => ?_, by rw [upd_ne nsd.symm]; exact hd6, .non, upd_same, by omega, by omega, by omega, by omega, .inl rfl⟩
        rw [upd_ne (ne_of_none e nH)]
        exact x6 b o nb e
      · refine ⟨rfl, x6, hd6, .int h, hs6, by omega, by omega, by omega, by omega, .inr ⟨h, rfl, h0, ?_⟩⟩
        have : ¬ h = 1 + q := fun z => hc (decide_eq_true (congrArg V.int z))
        omega
    · rintro σ' H' ⟨rfl, x7, hd7, f, hf⟩
      exact ⟨_, rfl, k H' s m3 (1 + q) i f x7 hd7 nH hf (by omega)⟩
theorem sc_law_sampler : FnScope ["_law_spec_here"] ["_law_spec_here"] (defScope s_law_sampler) := ⟨rfl, rfl, rfl, by decide +kernel, rfl, by decide +kernel, by decide +kernel⟩
-- slots: 0 _law_spec_here
def spSmp (K : PySem.W.Frag) : Sp := fun vs H Q _ => ∃ (s : Addr) (n i : Int) (f : V), vs = [.ref s] ∧ SpA H s n i f ∧ ∀ H' p, Same H H' → SaA (CS K) H' p n i f → Q (.ref p) H'
theorem ok_law_sampler {fd : FuncData} (F : FnD K ("_law_sampler", none) "_law_sampler" "_law_sampler" s_law_sampler fd) (T : Txt K mg) (O_Sampler_init2k : OkK P w K mg base (L2.CX P w) 4 ("Sampler", some "__init__") ["self", "period", "jitter", "phase"] 3 ["phase"] (fun vs zs => vs ++ zs) (spSaI K)) : OkF P w K mg base CX0 6 "_law_sampler" ["_law_spec_here"] (spSmp K) := by
  refine okd F (F.ok sc_law_sampler (fun vs H Q E h => ?_) fun cdv A outer s H vs Q E hr h => ?_) fun _ _ _ _ _ _ us hl => match us, hl with | [_], _ => rfl
  · obtain ⟨s, n, i, f, rfl, _⟩ := h
    rfl
  · obtain ⟨s, n, i, f, rfl, hs, k⟩ := h
    refine ⟨_, PSs.nox (pss_one (ps_ret (c_mkK T.m_Sampler O_Sampler_init2k hr (by decide) T.g_Sampler passL (pa_cons (pe_ix ix_list (pv 0) pe_int (fun _ _ => rfl)) (pa_cons (pe_ix ix_list (pv 0) pe_int (fun _ _ => rfl)) pa_nil)) (pk_cons (pe_ix ix_list (pv 0) pe_int (fun _ _ => rfl)) pk_nil)))), ?_⟩
    refine ⟨_, rfl, s, _, 0, .int n, rfl, rfl, SqL.of hs.hs, atI0, _, rfl, s, _, 1, .int i, rfl, rfl, SqL.of hs.hs, atI1, _, rfl, s, _, 2, f, rfl, rfl, SqL.of hs.hs, atI_nat (j := 2) rfl, rfl, rfl, fun p dx np ndx ne => ⟨p, dx, .int n, .int i, f, rfl, upd_same, .inr ⟨n, i, ⟨rfl, hs.n1, hs.n8, rfl, hs.i0, hs.i1, hs.hf⟩, rfl, ?_⟩⟩⟩
    exact k _ p (same_make2 np ndx) ⟨dx, upd_same⟩
end
end K36

set_option Elab.async false
set_option linter.all false
set_option pp.deepTerms.threshold 14
set_option pp.maxSteps 2500
set_option maxRecDepth 100000
set_option maxHeartbeats 2000000
namespace K36
open PySem PySem.Spec PyProof.Rows L2 Vf
section
variable {P : Program} {w : World} {K : PySem.W.Frag} {mg : Str → Option Value} {base : Heap}
theorem nm_ok {z : Str} (h : nmB z = true) : PyData.strOk z = true := by
  unfold nmB at h
  simp only [Bool.and_eq_true] at h
  have h4 := h.2.2.2
  have hL : ∀ c ∈ LET.cps.toList, c < 0x110000 := by decide +kernel
  unfold PyData.strOk
  rw [Array.all_eq_true]
  intro i hi
  refine decide_eq_true (hL _ (of_decide_eq_true (List.all_eq_true.mp h4 _ ?_)))
  exact Array.getElem_mem_toList hi
theorem strs_lay : ∀ zs : List Str, (∀ z ∈ zs, nmB z = true) → PyData.canLayAll0 (zs.map PyData.str) = true ∧ PyData.depthAll (zs.map PyData.str) = 0
  | [], _ => ⟨rfl, rfl⟩
  | z :: zs, h => by
    obtain ⟨h1, h2⟩ := strs_lay zs fun y hy => h y (List.mem_cons_of_mem _ hy)
    have h3 := nm_ok (h z (List.mem_cons_self ..))
    refine ⟨?_, ?_⟩
    · show PyData.canLayAll0 (.str z :: zs.map PyData.str) = true
      simp [PyData.canLayAll0, PyData.canLay0, h1, h3]
    · show max (PyData.depth (.str z)) (PyData.depthAll (zs.map PyData.str)) = 0
      rw [h2]
      rfl
theorem strD_sh {zs : List Str} (h : ∀ z ∈ zs, nmB z = true) : SeqAt.shaped (strD zs) = true := by
  obtain ⟨h1, h2⟩ := strs_lay zs h
  unfold SeqAt.shaped strD
  have e : PyData.depth (.tuple (zs.map PyData.str)) = 1 := by
    show PyData.depthAll (zs.map PyData.str) + 1 = 1
    rw [h2]
  rw [e]
  simp [PyData.canLay0, h1]
theorem strD_dp {H : Hp} {t : Addr} {zs : List Str} (h : H t = some (.tup (zs.map V.str))) : Dp K H (.ref t) (strD zs) := .tup (SqT.of h) strs_dp
theorem strD_eq (zs zs' : List Str) : PyData.eqv (strD zs) (strD zs') = decide (zs = zs') := strs_eq
theorem plf_inj {z z' : Str} {l l' m m' : Int} {b b' : Bool} (h : plf z l m b = plf z' l' m' b') : z = z' ∧ l = l' ∧ m = m' ∧ b = b' := by
  have a1 := plf_name z l m b
  have a2 := plf_least z l m b
  have a3 := plf_most z l m b
  have a4 := plf_let z l m b
  rw [h] at a1 a2 a3 a4
  rw [plf_name] at a1
  rw [plf_least] at a2
  rw [plf_most] at a3
  rw [plf_let] at a4
  cases a1
  cases a2
  cases a3
  cases a4
  exact ⟨rfl, rfl, rfl, rfl⟩
theorem plE_same {K : PySem.W.Frag} {H : Hp} {y y' : PgE} (h : PlE K H y) (h' : PlE K H y') (e : y.1 = y'.1) : plE y y' = true := by
  obtain ⟨dx, h1⟩ := h
  obtain ⟨dy, h2⟩ := h'
  rw [e, h2] at h1
  injection h1 with h1
  injection h1 with _ _ h1
  obtain ⟨e1, e2, e3, e4⟩ := plf_inj h1
  unfold plE plB
  simp [e1, e2, e3, e4]
theorem nsE_same {H : Hp} {zs zs' : List Str} {y y' : PgE} (h : NsE H zs y) (h' : NsE H zs' y') (e : y.2.1 = y'.2.1) : nsE y y' = true := by
  have h1 := h.1
  rw [e, h'.1] at h1
  injection h1 with h1
  injection h1 with h1
  unfold nsE
  refine decide_eq_true ?_
  have := List.map_inj_right (f := V.str) (fun a b h => V.str.inj h) |>.mp h1
  exact this.symm
theorem sc_Program_eq : FnScope ["self", "other"] ["self", "other"] (defScope s_Program_eq) := ⟨rfl, rfl, rfl, by decide +kernel, rfl, by decide +kernel, by decide +kernel⟩
-- slots: 0 self, 1 other
def spPgE (K : PySem.W.Frag) : Sp := fun vs H Q _ => ∃ (g g' : Addr) (xs xs' : List PgE) (st st' : Str) (dx tn dP dN dx' tn' dP' dN' : Addr), vs = [.ref g, .ref g'] ∧ PgA K H g xs st dx tn dP dN ∧ PgA K H g' xs' st' dx' tn' dP' dN' ∧ dP ≠ dP' ∧ dN ≠ dN' ∧ ∀ H', Same H H' → Q (.bl (pgB xs xs' st st')) H'
theorem ok_Program_eq {fd : FuncData} (F : FnD K ("Program", some "__eq__") "__eq__" "Program.__eq__" s_Program_eq fd) (T : GTxt K mg) (M : GMeth K) (O_eq : OkM P w K mg base CX0 1 "Place" "__eq__" ["self", "other"] (spPlE (CP K))) : OkM P w K mg base CX0 4 "Program" "__eq__" ["self", "other"] (spPgE K) := by
  refine okd F (F.ok sc_Program_eq (fun vs H Q E h => ?_) fun cdv A outer s H vs Q E hr h => ?_) fun _ _ _ _ _ _ us hl => match us, hl with | [_, _], _ => rfl
  · obtain ⟨g, g', xs, xs', st, st', dx, tn, dP, dN, dx', tn', dP', dN', rfl, _⟩ := h
    rfl
  · obtain ⟨g, g', xs, xs', st, st', dx, tn, dP, dN, dx', tn', dP', dN', rfl, hp, hq, nP, nN, k⟩ := h
    refine ⟨_, PSs.nox (pss_one (ps_ret (pe_and (pe_callB (id := "isinstance") call_isi (by rfl) T.z_isinstance (by decide +kernel) (pa_cons (pv 1) (pa_cons (pe_cl T.g_Program) pa_nil))) (pe_and (pe_cmpR (op_eqD hr.units) (pe_fld (pv 0) rfl) (pe_fld (pv 1) rfl) (nomark _)) (pe_and (pe_cmpR (op_eqDB (n := 1) (eqB_oo M.p_eq O_eq pass0) (hr.mono (by decide))) (pe_fld (pv 0) rfl) (pe_fld (pv 1) rfl) (nomark _)) (pe_and (pe_cmpR (op_eqDB (n := 1) eqB_dat (hr.mono (by decide))) (pe_fld (pv 0) rfl) (pe_fld (pv 1) rfl) (nomark _)) (pe_one (pe_cmpR op_eq (pe_fld (pv 0) rfl) (pe_fld (pv 1) rfl) (nomark _))))))))), ?_⟩
    refine ⟨_, rfl, .ref g', .ref (CG K), .ref (CG K), .ref (CG K), true, rfl, .own _, .base (.ins hq.hg T.c_Program T.pa T.hn T.ht T.pm), T.pk, true, rfl, iteT ?_⟩
    unfold pgB at k
    refine ⟨_, rfl, g, _, dx, _, _, rfl, hp.hg, T.c_Program, T.nA, pgf_names .., _, rfl, g', _, dx', _, _, rfl, hq.hg, T.c_Program, T.nA, pgf_names .., _, _, strD_dp hp.hn, strD_dp hq.hn, strD_sh hp.nm, strD_sh hq.nm, ?_⟩
    rw [strD_eq]
    refine ⟨_, rfl, ?_⟩
    cases e1 : decide (zsOf xs = zsOf xs') with
    | false =>
      rw [e1] at k
      exact iteF (k H (Same.refl _))
    | true =>
      rw [e1] at k
      have hz := of_decide_eq_true e1
      have hl : xs.length = xs'.length := by
        have := congrArg List.length hz
        simpa [zsOf] using this
      have hl2 : (kvP xs).length = (kvP xs').length := by simpa [kvP] using hl
      have hl3 : (kvN xs).length = (kvN xs').length := by simpa [kvN] using hl
      refine iteT ⟨_, rfl, g, _, dx, _, _, rfl, hp.hg, T.c_Program, T.nC, pgf_places .., _, rfl, g', _, dx', _, _, rfl, hq.hg, T.c_Program, T.nC, pgf_places .., dP, dP', kvP xs, kvP xs', zipAll plE xs xs', rfl, rfl, nP, hp.hP, hq.hP, fun _ => ?_, fun H1 s1 => ?_⟩
      · refine hits_rows (f := fun y => V.ref y.1) hq.nd (fun y hy => List.mem_iff_getElem?.mp hy) hz fun y hy y' hy' H' keep => ?_
        have a1 : PlE K H' y := by
          obtain ⟨d1, h1⟩ := hp.pl y hy
          exact ⟨d1, keep _ _ (ne_of h1 hp.hP (by intro z; cases z)) (ne_of h1 hq.hP (by intro z; cases z)) h1⟩
        have a2 : PlE K H' y' := by
          obtain ⟨d1, h1⟩ := hq.pl y' hy'
          exact ⟨d1, keep _ _ (ne_of h1 hp.hP (by intro z; cases z)) (ne_of h1 hq.hP (by intro z; cases z)) h1⟩
        obtain ⟨d1, h1⟩ := id a1
        obtain ⟨d2, h2⟩ := id a2
        exact ⟨y.1, y'.1, d1, d2, _, _, rfl, rfl, h1, h2, fun e => plE_same a1 a2 e, y.1, y'.1, _, _, _, _, _, _, _, _, rfl, a1, a2, rfl, Ext.rfl'⟩
      rw [hl2, beq_self_eq_true, Bool.true_and, zip_pl hl]
      refine ⟨_, rfl, ?_⟩
      have hp1 := hp.ext s1
      have hq1 := hq.ext s1
      cases e2 : decide (plOf xs = plOf xs') with
      | false =>
        rw [e2] at k
        exact iteF (k H1 s1)
      | true =>
        rw [e2] at k
        refine iteT ⟨_, rfl, g, _, dx, _, _, rfl, hp1.hg, T.c_Program, T.nD, pgf_nexts .., _, rfl, g', _, dx', _, _, rfl, hq1.hg, T.c_Program, T.nD, pgf_nexts .., dN, dN', kvN xs, kvN xs', zipAll nsE xs xs', rfl, rfl, nN, hp1.hN, hq1.hN, fun _ => ?_, fun H2 s2 => ?_⟩
        · refine hits_rows (f := fun y => V.ref y.2.1) hq.nd (fun y hy => List.mem_iff_getElem?.mp hy) hz fun y hy y' hy' H' keep => ?_
          have h1 := (hp1.ns y hy).1
          have h2 := (hq1.ns y' hy').1
          have k1 := keep _ _ (ne_of h1 hp1.hN (by intro z; cases z)) (ne_of h1 hq1.hN (by intro z; cases z)) h1
          have k2 := keep _ _ (ne_of h2 hp1.hN (by intro z; cases z)) (ne_of h2 hq1.hN (by intro z; cases z)) h2
          exact ⟨_, _, strD_dp k1, strD_dp k2, strD_sh (fun z hm => hp.nm z ((hp1.ns y hy).2.1 z hm)), strD_sh (fun z hm => hq.nm z ((hq1.ns y' hy').2.1 z hm)), (strD_eq _ _).symm, fun e => nsE_same (hp1.ns y hy) (hq1.ns y' hy') (V.ref.inj e)⟩
        rw [hl3, beq_self_eq_true, Bool.true_and, zip_ns hl]
        refine ⟨_, rfl, ?_⟩
        have hp2 := hp1.ext s2
        have hq2 := hq1.ext s2
        cases e3 : decide (nsOf xs = nsOf xs') with
        | false =>
          rw [e3] at k
          exact iteF (k H2 (s1.trans s2))
        | true =>
          rw [e3] at k
          refine iteT ⟨_, rfl, g, _, dx, _, _, rfl, hp2.hg, T.c_Program, T.nB, pgf_start .., _, rfl, g', _, dx', _, _, rfl, hq2.hg, T.c_Program, T.nB, pgf_start .., rfl, ?_⟩
          show Q (.bl (decide (V.str st = V.str st'))) H2
          rw [str_dec]
          exact k H2 (s1.trans s2)
def rwOf (ys : List PgE) : List Rw := ys.map fun y => y.2.2
theorem Beside.rw {xs ys : List PgE} (h : Beside xs ys) : rwOf xs = rwOf ys := by
  have := congrArg (List.map fun x : Addr × Rw => x.2) h
  rw [List.map_map, List.map_map] at this
  exact this
theorem pg_alike {xs xs' : List PgE} {st st' : Str} : pgB xs xs' st st' = (decide (rwOf xs = rwOf xs') && decide (st = st')) := by
  have key : (zsOf xs = zsOf xs' ∧ plOf xs = plOf xs' ∧ nsOf xs = nsOf xs') ↔ rwOf xs = rwOf xs' := by
    constructor
    · rintro ⟨_, h1, h2⟩
      have hl : xs.length = xs'.length := by
        have := congrArg List.length h1
        simpa [plOf] using this
      refine List.ext_getElem? fun i => ?_
      have e1 := congrArg (fun l => l[i]?) h1
      have e2 := congrArg (fun l => l[i]?) h2
      simp only [plOf, nsOf, rwOf, List.getElem?_map] at e1 e2 ⊢
      cases hx : xs[i]? with
      | none =>
        rw [hx] at e1
        cases hy : xs'[i]? with
        | none => rfl
        | some y => rw [hy] at e1; cases e1
      | some x =>
        rw [hx] at e1 e2
        cases hy : xs'[i]? with
        | none => rw [hy] at e1; cases e1
        | some y =>
          rw [hy] at e1 e2
          simp only [Option.map_some, Option.some.injEq, Prod.mk.injEq] at e1 e2 ⊢
          obtain ⟨a1, a2, a3, a4⟩ := e1
          cases hr : x.2.2
          cases hr' : y.2.2
          rw [hr, hr'] at a1 a2 a3 a4 e2
          simp only at a1 a2 a3 a4 e2
          rw [a1, a2, a3, a4, e2]
    · intro h
      refine ⟨?_, ?_, ?_⟩
      · have := congrArg (List.map fun r : Rw => r.z) h
        simpa [rwOf, zsOf, List.map_map, Function.comp_def] using this
      · have := congrArg (List.map fun r : Rw => (r.z, r.l, r.m, r.b)) h
        simpa [rwOf, plOf, List.map_map, Function.comp_def] using this
      · have := congrArg (List.map fun r : Rw => r.ns) h
        simpa [rwOf, nsOf, List.map_map, Function.comp_def] using this
  unfold pgB
  rw [Bool.eq_iff_iff]
  simp only [Bool.and_eq_true, decide_eq_true_eq]
  rw [← key]
  simp [and_assoc]
/-! ### rows as data -/
def rowD (r : Rw) : PyData := .list [.str r.z, .int r.l, .int r.m, .bool r.b, strD r.ns]
def rowsD (rs : List Rw) : PyData := .list (rs.map rowD)
theorem rowD_eq (r r' : Rw) : PyData.eqv (rowD r) (rowD r') = decide (r = r') := by
  show ((r.z == r'.z) && ((r.l == r'.l) && ((r.m == r'.m) && ((r.b == r'.b) && (PyData.eqv (strD r.ns) (strD r'.ns) && true))))) = _
  rw [strD_eq, Bool.eq_iff_iff]
  cases r
  cases r'
  simp
theorem rowsD_eq : ∀ rs rs' : List Rw, PyData.eqvAll (rs.map rowD) (rs'.map rowD) = decide (rs = rs')
  | [], [] => rfl
  | [], _ :: _ => rfl
  | _ :: _, [] => rfl
  | r :: rs, r' :: rs' => by
    rw [cons_dec]
    show (PyData.eqv (rowD r) (rowD r') && PyData.eqvAll (rs.map rowD) (rs'.map rowD)) = _
    rw [rowsD_eq, rowD_eq]
theorem rowD_lay {r : Rw} (h1 : nmB r.z = true) (h2 : ∀ z ∈ r.ns, nmB z = true) : PyData.canLay0 (rowD r) = true ∧ PyData.depth (rowD r) = 2 := by
  obtain ⟨a1, a2⟩ := strs_lay r.ns h2
  have a3 := nm_ok h1
  have e : PyData.depth (strD r.ns) = 1 := by
    show PyData.depthAll (r.ns.map PyData.str) + 1 = 1
    rw [a2]
  refine ⟨?_, ?_⟩
  · simp [rowD, strD, PyData.canLay0, PyData.canLayAll0, a1, a3]
  · show max 0 (max 0 (max 0 (max 0 (max (PyData.depth (strD r.ns)) 0)))) + 1 = 2
    rw [e]
    rfl
theorem rowsD_lay : ∀ rs : List Rw, (∀ r ∈ rs, nmB r.z = true ∧ ∀ z ∈ r.ns, nmB z = true) → PyData.canLayAll0 (rs.map rowD) = true ∧ PyData.depthAll (rs.map rowD) ≤ 2
  | [], _ => ⟨rfl, Nat.zero_le _⟩
  | r :: rs, h => by
    obtain ⟨h1, h2⟩ := rowsD_lay rs fun y hy => h y (List.mem_cons_of_mem _ hy)
    obtain ⟨h3, h4⟩ := rowD_lay (h r (List.mem_cons_self ..)).1 (h r (List.mem_cons_self ..)).2
    refine ⟨?_, ?_⟩
    · show PyData.canLayAll0 (rowD r :: rs.map rowD) = true
      simp [PyData.canLayAll0, h1, h3]
    · show max (PyData.depth (rowD r)) (PyData.depthAll (rs.map rowD)) ≤ 2
      rw [h4]
      omega
theorem RowsOk.nm {ys : List PgE} (h : RowsOk ys) : ∀ r ∈ rwOf ys, nmB r.z = true ∧ ∀ z ∈ r.ns, nmB z = true := fun r hr => by
  obtain ⟨y, hy, rfl⟩ := List.mem_map.mp hr
  refine ⟨(h.kp y hy).1, fun z hz => ?_⟩
  obtain ⟨y2, hy2, rfl⟩ := List.mem_map.mp ((h.ns y hy).1 z hz)
  exact (h.kp y2 hy2).1
theorem rowsD_sh {ys : List PgE} (h : RowsOk ys) : SeqAt.shaped (rowsD (rwOf ys)) = true := by
  obtain ⟨h1, h2⟩ := rowsD_lay (rwOf ys) h.nm
  unfold SeqAt.shaped rowsD
  have e : PyData.depth (.list ((rwOf ys).map rowD)) ≤ 64 := by
    show PyData.depthAll ((rwOf ys).map rowD) + 1 ≤ 64
    omega
  rw [decide_eq_true e]
  simp [PyData.canLay0, h1]
theorem row_dp {H : Hp} {y : PgE} (h : RowA H y) : Dp K H (.ref y.1) (rowD y.2.2) := .lst (SqL.of h.1) (.cons (.str _) (.cons (.int _) (.cons (.int _) (.cons (.bl _) (.cons (strD_dp h.2) .nil)))))
theorem rows_dpAll {H : Hp} : ∀ {ys : List PgE}, (∀ y ∈ ys, RowA H y) → DpAll K H (ys.map fun y => V.ref y.1) ((rwOf ys).map rowD)
  | [], _ => .nil
  | y :: ys, h => .cons (row_dp (h y (List.mem_cons_self ..))) (rows_dpAll fun v hv => h v (List.mem_cons_of_mem _ hv))
theorem rows_dp {H : Hp} {R : Addr} {ys : List PgE} (h : RowsA H R ys) : Dp K H (.ref R) (rowsD (rwOf ys)) := .lst (SqL.of h.hR) (rows_dpAll h.row)
/-- the first four of a row -/
def r4D (r : Rw) : PyData := .list [.str r.z, .int r.l, .int r.m, .bool r.b]
theorem r4D_eq (x x' : PgE) : PyData.eqv (r4D x.2.2) (r4D x'.2.2) = plE x x' := by
  show ((x.2.2.z == x'.2.2.z) && ((x.2.2.l == x'.2.2.l) && ((x.2.2.m == x'.2.2.m) && ((x.2.2.b == x'.2.2.b) && true)))) = _
  unfold plE plB
  rw [Bool.eq_iff_iff]
  simp
theorem r4D_sh {r : Rw} (h : nmB r.z = true) : SeqAt.shaped (r4D r) = true := by
  have := nm_ok h
  unfold SeqAt.shaped r4D
  rw [decide_eq_true (show PyData.depth (.list [.str r.z, .int r.l, .int r.m, .bool r.b]) ≤ 64 by show max 0 (max 0 (max 0 (max 0 0))) + 1 ≤ 64; decide)]
  simp [PyData.canLay0, PyData.canLayAll0, this]
theorem r4_dp {H : Hp} {p : Addr} {r : Rw} (h : H p = some (.lst [.str r.z, .int r.l, .int r.m, .bl r.b])) : Dp K H (.ref p) (r4D r) := .lst (SqL.of h) (.cons (.str _) (.cons (.int _) (.cons (.int _) (.cons (.bl _) .nil))))
theorem cut4 {z : Str} {l m : Int} {b : Bool} {t : Addr} : cutV [.str z, .int l, .int m, .bl b, .ref t] none (some 4) = [.str z, .int l, .int m, .bl b] := by
  have := cutV_upto (xs := [.str z, .int l, .int m, .bl b, .ref t]) (i := 4) (by show 4 ≤ 5; decide)
  rw [show ((4 : Nat) : Int) = 4 from rfl] at this
  rw [this]
  rfl
theorem plE_comm (x x' : PgE) : plE x x' = plE x' x := by
  unfold plE plB
  rw [decide_eq_decide.mpr (eq_comm (a := x.2.2.z) (b := x'.2.2.z)), decide_eq_decide.mpr (eq_comm (a := x.2.2.l) (b := x'.2.2.l)), decide_eq_decide.mpr (eq_comm (a := x.2.2.m) (b := x'.2.2.m)), decide_eq_decide.mpr (eq_comm (a := x.2.2.b) (b := x'.2.2.b))]
theorem bne_self (b : Bool) : (!decide (V.bl b = V.bl b)) = false := by rw [decide_eq_true rfl]; rfl
theorem beq_nself (b : Bool) : decide (V.bl (!b) = V.bl b) = false := by cases b <;> decide
end
end K36

set_option Elab.async false
set_option linter.all false
set_option pp.deepTerms.threshold 14
set_option pp.maxSteps 2500
set_option maxRecDepth 100000
set_option maxHeartbeats 2000000
namespace K36
open PySem PySem.Spec PyProof.Rows L2 Vf
section
variable {P : Program} {w : World} {K : PySem.W.Frag} {mg : Str → Option Value} {base : Heap}
structure QTxt (K : PySem.W.Frag) (mg : Str → Option Value) : Prop extends Txt K mg where
  sa : PySem.W.findIn K (.ref (He.ga K "Sampler")) "__class__" = some (some (.builtin "object.__class__"))
  sm : PySem.W.mroIn K (He.ga K "Sampler") (.type "object") = some true
  sk : PySem.W.kitOne K (.ref (He.ga K "Sampler")) (.ref (He.ga K "Sampler")) = some true
structure SMeth (K : PySem.W.Frag) : Prop where
  s_eq : Meth K (He.ga K "Sampler") "__eq__" (He.fAd K ("Sampler", some "__eq__"))
  s_ne : PySem.W.findIn K (.ref (He.ga K "Sampler")) "__ne__" = some (some (.builtin "object.__ne__"))
theorem sc_Sampler_eq : FnScope ["self", "other"] ["self", "other"] (defScope s_Sampler_eq) := ⟨rfl, rfl, rfl, by decide +kernel, rfl, by decide +kernel, by decide +kernel⟩
-- slots: 0 self, 1 other
def saB (n n' i i' : Int) (f f' : V) : Bool := decide (n = n') && (decide (i = i') && decide (f = f'))
/-- a phase: an int or None -/
def PhV (f : V) : Prop := f = .non ∨ ∃ q : Int, f = .int q
theorem PhOk.v {f : V} {n : Int} (h : PhOk f n) : PhV f := h.imp id fun ⟨q, e, _⟩ => ⟨q, e⟩
theorem PhV.scal {f f' : V} (h : PhV f) (h' : PhV f') : scal f f' = true := by
  rcases h with rfl | ⟨q, rfl⟩ <;> rcases h' with rfl | ⟨q', rfl⟩ <;> rfl
def spSaE (C : Addr) : Sp := fun vs H Q _ => ∃ (p q : Addr) (n n' i i' : Int) (f f' : V), vs = [.ref p, .ref q] ∧ SaA C H p n i f ∧ SaA C H q n' i' f' ∧ PhV f ∧ PhV f' ∧ Q (.bl (saB n n' i i' f f')) H
theorem ok_Sampler_eq {fd : FuncData} (F : FnD K ("Sampler", some "__eq__") "__eq__" "Sampler.__eq__" s_Sampler_eq fd) (T : QTxt K mg) : OkM P w K mg base CX0 1 "Sampler" "__eq__" ["self", "other"] (spSaE (CS K)) := by
  refine okd F (F.ok sc_Sampler_eq (fun vs H Q E h => ?_) fun cdv A outer s H vs Q E hr h => ?_) fun _ _ _ _ _ _ us hl => match us, hl with | [_, _], _ => rfl
  · obtain ⟨p, q, n, n', i, i', f, f', rfl, _⟩ := h
    rfl
  · obtain ⟨p, q, n, n', i, i', f, f', rfl, ⟨dx, hp⟩, ⟨dy, hq⟩, f1, f2, k⟩ := h
    refine ⟨_, PSs.nox (pss_one (ps_ret (pe_and (pe_callB (id := "isinstance") call_isi (by rfl) T.z_isinstance (by decide +kernel) (pa_cons (pv 1) (pa_cons (pe_cl T.g_Sampler) pa_nil))) (pe_and (pe_cmpR op_eq (pe_fld (pv 0) rfl) (pe_fld (pv 1) rfl) (nomark _)) (pe_and (pe_cmpR op_eq (pe_fld (pv 0) rfl) (pe_fld (pv 1) rfl) (nomark _)) (pe_one (pe_cmpR op_eq (pe_fld (pv 0) rfl) (pe_fld (pv 1) rfl) (nomark _)))))))), ?_⟩
    refine ⟨_, rfl, .ref q, .ref (CS K), .ref (CS K), .ref (CS K), true, rfl, .own _, .base (.ins hq T.c_Sampler T.sa T.hn T.ht T.sm), T.sk, true, rfl, iteT ?_⟩
    unfold saB at k
    rw [← int_dec, ← int_dec] at k
    refine ⟨_, rfl, p, _, dx, _, _, rfl, hp, T.c_Sampler, T.sP, saf_period .., _, rfl, q, _, dy, _, _, rfl, hq, T.c_Sampler, T.sP, saf_period .., rfl, _, rfl, ?_⟩
    cases e1 : decide (V.int n = V.int n') with
    | false =>
      rw [e1] at k
      exact iteF k
    | true =>
      rw [e1] at k
      refine iteT ⟨_, rfl, p, _, dx, _, _, rfl, hp, T.c_Sampler, T.sJ, saf_jitter .., _, rfl, q, _, dy, _, _, rfl, hq, T.c_Sampler, T.sJ, saf_jitter .., rfl, _, rfl, ?_⟩
      cases e2 : decide (V.int i = V.int i') with
      | false =>
        rw [e2] at k
        exact iteF k
      | true =>
        rw [e2] at k
        exact iteT ⟨_, rfl, p, _, dx, _, _, rfl, hp, T.c_Sampler, T.sF, saf_phase .., _, rfl, q, _, dy, _, _, rfl, hq, T.c_Sampler, T.sF, saf_phase .., f1.scal f2, k⟩
/-- d != e, two dicts of values that equal each other deeply -/
def rNeJ (K : PySem.W.Frag) : R2 := fun x y H Q => ∃ (a b : Addr) (ks ls : List (Key × V)), x = .ref a ∧ y = .ref b ∧ H a = some (.dK ks) ∧ H b = some (.dK ls) ∧ ks.length = ls.length ∧ (∀ p ∈ ks, ∃ u d e, valV ls p.1 = some u ∧ Dp K H p.2 d ∧ Dp K H u e ∧ d.canLay0 = true ∧ e.canLay0 = true ∧ d.depth ≤ 8 ∧ PyData.eqv d e = true) ∧ Q (.bl false) H
theorem op_neJ {X : Cx} (hu : X.A.units + 64 < cLine) : OpR X (compareOp .NotEq) (rNeJ X.K) := by
  intro pins s σ H x y v u Q I rx ry h
  obtain ⟨a, b, ks, ls, rfl, rfl, ha, hb, hl, hp, q⟩ := h
  cases rx
  cases ry
  obtain ⟨_, ya, va, ra, da⟩ := (show ObjOk X.prog X.w H s.heap a (.dK ks) from I.hok a _ ha)
  obtain ⟨_, yb, vb, rb, db⟩ := (show ObjOk X.prog X.w H s.heap b (.dK ls) from I.hok b _ hb)
  have e : va.length = vb.length := by rw [← ra.length, ← rb.length]; exact hl
  refine PySem.W.keq_ne (knd := mixKind X.prog X.w) (r := true) ya yb da db (by omega) (fun _ => ?_) ?_
  · have go : ∀ {ks : List (Key × V)} {va : List (Key × Value)}, KV ks va → (∀ p ∈ ks, ∃ u d e, valV ls p.1 = some u ∧ Dp X.K H p.2 d ∧ Dp X.K H u e ∧ d.canLay0 = true ∧ e.canLay0 = true ∧ d.depth ≤ 8 ∧ PyData.eqv d e = true) → PySem.W.KeqHits X.A.in1 s vb va true := by
      intro ks va ra
      unfold KV at ra
      induction ra with
      | nil => intro _; exact .nil
      | @cons p q ps qs h t k =>
        intro hp
        obtain ⟨h1, h2⟩ := h
        obtain ⟨u, d, e, hu1, hd, he, ld, le, dd, hq⟩ := hp p List.mem_cons_self
        have rr : RelO (some u) (valueAt vb p.1) := by rw [← hu1]; exact rb.val p.1
        obtain ⟨y, hy, ry⟩ := rr.some_of
        obtain ⟨key, v⟩ := q
        have h1' : p.1 = key := h1
        rw [h1'] at hy
        obtain ⟨as, r1⟩ := Dp.reads I d _ _ hd h2
        obtain ⟨bs, r2⟩ := Dp.reads I e _ _ he ry
        have hun : X.A.in1.units + min d.depth e.depth < cLine := by
          have : X.A.in1.units = X.A.units + 1 := rfl
          have := Nat.min_le_left d.depth e.depth
          omega
        have hat := SeqAt.eqAt_reads d e X.A.in1 s v y as bs r1 r2 ld le hun
        rw [hq] at hat
        show PySem.W.KeqHits X.A.in1 s vb ((key, v) :: qs) (true && true)
        exact .hit hy hat (k fun p' hm => hp p' (List.mem_cons_of_mem _ hm))
    exact go ra hp
  · rw [show (!(va.length == vb.length && true)) = false from by rw [e]; simp]
    exact ⟨.bl false, H, I, rfl, q⟩
end
end K36

set_option Elab.async false
set_option linter.all false
set_option pp.deepTerms.threshold 14
set_option pp.maxSteps 2500
set_option maxRecDepth 100000
set_option maxHeartbeats 2000000
namespace K36
open PySem PySem.Spec PyProof.Rows L2 Vf
section
variable {P : Program} {w : World} {K : PySem.W.Frag} {mg : Str → Option Value} {base : Heap}
theorem cut_whole {xs : List V} {lo hi : Option Int} (h : HT.sIx xs.length 0 lo = 0 ∧ HT.sIx xs.length xs.length hi = xs.length) : cutV xs lo hi = xs := by
  unfold cutV
  rw [h.1, h.2]
  simp
theorem slA_of {H : Hp} {a : Addr} {xs : List V} {lo hi : Option Int} {Q : VK} (hx : H a = some (.tup xs)) (k : ∀ H' t', Same H H' → H' t' = some (.tup (cutV xs lo hi)) → Q (.ref t') H') : rSlA K (.ref a) lo hi H Q :=
  ⟨a, xs, rfl, SqT.of hx, fun hw => k H a (Same.refl _) (by rw [cut_whole hw]; exact hx), fun _ p np => k _ p (same_new np) upd_same⟩
theorem catA_of {H : Hp} {a b : Addr} {xs ys : List V} {Q : VK} (ha : H a = some (.tup xs)) (hb : H b = some (.tup ys)) (hz : xs.length + ys.length ≤ sizeLine) (k : ∀ H' t', Same H H' → H' t' = some (.tup (xs ++ ys)) → Q (.ref t') H') : rCatA K (.ref a) (.ref b) H Q :=
  ⟨a, b, xs, ys, rfl, rfl, SqT.of ha, SqT.of hb, hz, fun h => k H b (Same.refl _) (by rw [h]; exact hb), fun _ h => k H a (Same.refl _) (by rw [h, List.append_nil]; exact ha), fun _ _ p np => k _ p (same_new np) upd_same⟩
theorem cut_from {xs : List V} {i : Nat} (h : i ≤ xs.length) : cutV xs (some (i : Int)) none = xs.drop i := by
  unfold cutV
  have e1 : HT.sIx xs.length xs.length none = xs.length := rfl
  have e2 : HT.sIx xs.length 0 (some (i : Int)) = i := by
    rw [HT.sIx_nat]
    omega
  rw [e1, e2]
  exact List.take_of_length_le (by rw [List.length_drop]; omega)
theorem cut_drop1 {zs : List Str} : cutV (zs.map V.str) (some 1) none = (zs.drop 1).map V.str := by
  cases zs with
  | nil => rfl
  | cons z zs =>
    have := cut_from (xs := (z :: zs).map V.str) (i := 1) (by simp)
    rw [show ((1 : Nat) : Int) = 1 from rfl] at this
    rw [this, List.map_drop]
theorem cut_take1 {zs : List Str} : cutV (zs.map V.str) none (some 1) = (zs.take 1).map V.str := by
  cases zs with
  | nil => rfl
  | cons z zs =>
    have := cutV_upto (xs := (z :: zs).map V.str) (i := 1) (by simp)
    rw [show ((1 : Nat) : Int) = 1 from rfl] at this
    rw [this, List.map_take]
theorem rowsOk_set {cs : List PgE} {p : Nat} {y : PgE} {t : Addr} {r : Rw} (h : RowsOk cs) (hp : cs[p]? = some y) (hz : r.z = y.2.2.z) (hk : RowK r) (h1 : ∀ v ∈ r.ns, v ∈ zsOf cs) (h2 : r.ns.Nodup) : RowsOk (cs.set p (y.1, t, r)) := by
  have ez := set_zs (t := t) hp hz
  refine ⟨by rw [ez]; exact h.nd, by rw [List.length_set]; exact h.l1, by rw [List.length_set]; exact h.l6, fun c hc => ?_, fun c hc => ?_⟩
  · rcases List.mem_or_eq_of_mem_set hc with hc | rfl
    · exact h.kp c hc
    · exact hk
  · rw [ez]
    rcases List.mem_or_eq_of_mem_set hc with hc | rfl
    · exact h.ns c hc
    · exact ⟨h1, h2⟩
/-- the copy on its way: its p-th row is y -/
structure Ch (d : Addr) (n : Nat) (H H' : Hp) (C : Addr) (cs : List PgE) (p : Nat) (y : PgE) : Prop where
  sx : SameX d H H'
  rows : RowsA H' C cs
  ok : RowsOk cs
  nd : (cs.map (·.1)).Nodup
  len : cs.length = n
  get : cs[p]? = some y
  fr : ∀ b ∈ cs.map (·.1), H b = none
theorem Ch.row {d : Addr} {n : Nat} {H H' : Hp} {C : Addr} {cs : List PgE} {p : Nat} {y : PgE} (h : Ch d n H H' C cs p y) : RowA H' y := h.rows.row y (List.mem_of_getElem? h.get)
theorem Ch.ext {d : Addr} {n : Nat} {H H' H2 : Hp} {C : Addr} {cs : List PgE} {p : Nat} {y : PgE} (h : Ch d n H H' C cs p y) (s : Same H' H2) : Ch d n H H2 C cs p y := ⟨h.sx.trans (same_x s), h.rows.ext s, h.ok, h.nd, h.len, h.get, h.fr⟩
theorem Ch.put {d : Addr} {n : Nat} {H H' : Hp} {C t : Addr} {cs : List PgE} {p : Nat} {y : PgE} {r : Rw} (h : Ch d n H H' C cs p y) (ht : H' t = some (.tup (r.ns.map V.str))) (hz : r.z = y.2.2.z) (hk : RowK r) (h1 : ∀ v ∈ r.ns, v ∈ zsOf cs) (h2 : r.ns.Nodup) :
    Ch d n H (upd H' y.1 (.lst [.str r.z, .int r.l, .int r.m, .bl r.b, .ref t])) C (cs.set p (y.1, t, r)) p (y.1, t, r) := by
  have hm := List.mem_of_getElem? h.get
  have h0 : H y.1 = none := h.fr _ (List.mem_map_of_mem hm)
  have hlt : p < cs.length := (List.getElem?_eq_some_iff.mp h.get).1
  refine ⟨fun b o nb e => ?_, h.rows.put h.nd h.get ht (ne_of ht h.row.1 (by intro z; cases z)), rowsOk_set h.ok h.get hz hk h1 h2, by rw [set_ad h.get]; exact h.nd, by rw [List.length_set]; exact h.len, ?_, by rw [set_ad h.get]; exact h.fr⟩
  · rw [upd_ne (ne_of_none e h0)]
    exact h.sx b o nb e
  · rw [List.getElem?_set, if_pos rfl, if_pos hlt]
theorem ixN1 {n : Nat} : ixN (n + 2) 1 = some 1 := by
  unfold ixN
  rw [if_pos (by omega), if_pos (by omega)]
  all_goals rfl
theorem ixN3 {n : Nat} : ixN (n + 4) 3 = some 3 := by
  unfold ixN
  rw [if_pos (by omega), if_pos (by omega)]
  all_goals rfl
theorem rot_ok {ns zs : List Str} (h1 : ∀ v ∈ ns, v ∈ zs) (h2 : ns.Nodup) : (∀ v ∈ ns.drop 1 ++ ns.take 1, v ∈ zs) ∧ (ns.drop 1 ++ ns.take 1).Nodup := by
  have hp : (ns.drop 1 ++ ns.take 1).Perm ns := by
    have := List.perm_append_comm (l₁ := ns.drop 1) (l₂ := ns.take 1)
    rw [List.take_append_drop] at this
    exact this
  exact ⟨fun v hv => h1 v (hp.mem_iff.mp hv), hp.nodup_iff.mpr h2⟩
theorem perm_ok {cs cs' : List PgE} (h : cs'.Perm cs) (hok : RowsOk cs) : RowsOk cs' := by
  have hz : (zsOf cs').Perm (zsOf cs) := h.map _
  exact ⟨hz.nodup_iff.mpr hok.nd, by rw [h.length_eq]; exact hok.l1, by rw [h.length_eq]; exact hok.l6, fun y hy => hok.kp y (h.mem_iff.mp hy), fun y hy => ⟨fun v hv => hz.mem_iff.mpr ((hok.ns y (h.mem_iff.mp hy)).1 v hv), (hok.ns y (h.mem_iff.mp hy)).2⟩⟩
theorem out_perm {cs : List PgE} {p : Nat} {y : PgE} (h : cs[p]? = some y) : (cs.take p ++ cs.drop (p + 1) ++ [y]).Perm cs := by
  have hlt : p < cs.length := (List.getElem?_eq_some_iff.mp h).1
  have e : cs = cs.take p ++ (y :: cs.drop (p + 1)) := by
    have h1 : cs.drop p = y :: cs.drop (p + 1) := by
      rw [List.drop_eq_getElem_cons hlt]
      congr 1
      exact (List.getElem?_eq_some_iff.mp h).2
    rw [← h1, List.take_append_drop]
  have h2 : (cs.take p ++ cs.drop (p + 1) ++ [y]).Perm (cs.take p ++ ([y] ++ cs.drop (p + 1))) := by
    rw [List.append_assoc]
    exact (List.perm_append_comm).append_left _
  exact h2.trans (by
    have : cs.take p ++ ([y] ++ cs.drop (p + 1)) = cs := e.symm
    rw [this])
theorem atI_int {α : Type} {xs : List α} {r : Int} {v : α} (h0 : 0 ≤ r) (h : xs[r.toNat]? = some v) : atI xs r = some v := by
  have e : r = (r.toNat : Int) := by omega
  rw [e]
  exact atI_nat h
theorem call_listB {X : Cx} {K : PySem.W.Frag} (hK : X.K = K) : CallR X (.type "list") (fun xs H Q => ∃ p ys, xs = [.ref p] ∧ (SqL K H p ys ∨ SqT K H p ys) ∧ ∀ l, H l = none → Q (.ref l) (upd H l (.lst ys))) := hK ▸ call_list_of
/-- xs[i], by values -/
def rGetL (K : PySem.W.Frag) : V → V → Hp → VK → Prop := fun x y H Q => ∃ (p : Addr) (xs : List V) (j : Nat) (v : V), x = .ref p ∧ y = .int (j : Int) ∧ SqL K H p xs ∧ xs[j]? = some v ∧ Q v H
theorem pget_list {X : Cx} : PGet X (rGetL X.K) := by
  intro pins s σ H x y v u Q I rx ry h
  obtain ⟨p, xs, j, z, rfl, rfl, hq, he, q⟩ := h
  cases rx
  obtain ⟨t, rfl⟩ := ry
  obtain ⟨its, r, pl, hz⟩ := I.list hq
  obtain ⟨w, ew, rw'⟩ := r.get he
  have hlt := (List.getElem?_eq_some_iff.mp he).1
  have hn := line63
  exact wpAny_getItem_list pl.isList (by omega) (by omega) (by rw [Int.toNat_natCast]; simpa using ew) ⟨z, H, I, rw', q⟩
theorem set_zs2 {cs : List PgE} {p : Nat} {y : PgE} {t : Addr} {r : Rw} (hp : cs[p]? = some y) (hz : r.z = y.2.2.z) : zsOf (cs.set p (y.1, t, r)) = zsOf cs := set_zs (t := t) hp hz
theorem RowsA.upd_other {H : Hp} {R O : Addr} {xs : List V} {o : HO} {ys : List PgE} (h : RowsA H R ys) (hO : H O = some (.lst xs)) (nR : R ≠ O) (ny : ∀ b ∈ ys.map (·.1), b ≠ O) : RowsA (upd H O o) R ys :=
  ⟨by rw [upd_ne nR]; exact h.hR, fun y hy => ⟨by rw [upd_ne (ny _ (List.mem_map_of_mem hy))]; exact (h.row y hy).1, by rw [upd_ne (ne_of (h.row y hy).2 hO (by intro z; cases z))]; exact (h.row y hy).2⟩⟩
/-- the two copies on their way -/
structure Cg (H : Hp) (d C O : Addr) (ys : List PgE) (n : Int) (H' : Hp) (cs : List PgE) (p : Nat) (y : PgE) (n' i' : Int) (f' : V) (m : Int) : Prop where
  ch : Ch d ys.length H H' C cs p y
  zs : zsOf cs = zsOf ys
  hd : H' d = some (.lst [.int m])
  sO : SpA H' O n' i' f'
  c0 : H C = none
  o0 : H O = none
  d0 : H d ≠ none
  nCO : C ≠ O
  nO : ∀ b ∈ cs.map (·.1), b ≠ O
  hn : n ≤ n'
theorem Cg.nd {H : Hp} {d C O : Addr} {ys : List PgE} {n : Int} {H' : Hp} {cs : List PgE} {p : Nat} {y : PgE} {n' i' : Int} {f' : V} {m : Int} (h : Cg H d C O ys n H' cs p y n' i' f' m) : C ≠ d ∧ O ≠ d ∧ ∀ b ∈ cs.map (·.1), b ≠ d :=
  ⟨fun e => h.d0 (e ▸ h.c0), fun e => h.d0 (e ▸ h.o0), fun b hb e => h.d0 (e ▸ h.ch.fr b hb)⟩
theorem Cg.ext {H : Hp} {d C O : Addr} {ys : List PgE} {n : Int} {H' H2 : Hp} {cs : List PgE} {p : Nat} {y : PgE} {n' i' : Int} {f' : V} {m : Int} (h : Cg H d C O ys n H' cs p y n' i' f' m) (s : Same H' H2) : Cg H d C O ys n H2 cs p y n' i' f' m :=
  ⟨h.ch.ext s, h.zs, s _ _ h.hd, h.sO.ext s, h.c0, h.o0, h.d0, h.nCO, h.nO, h.hn⟩
theorem Cg.put {H : Hp} {d C O t : Addr} {ys : List PgE} {n : Int} {H' : Hp} {cs : List PgE} {p : Nat} {y : PgE} {n' i' : Int} {f' : V} {m : Int} {r : Rw} (h : Cg H d C O ys n H' cs p y n' i' f' m) (ht : H' t = some (.tup (r.ns.map V.str))) (hz : r.z = y.2.2.z) (hk : RowK r) (h1 : ∀ v ∈ r.ns, v ∈ zsOf cs) (h2 : r.ns.Nodup) :
    Cg H d C O ys n (upd H' y.1 (.lst [.str r.z, .int r.l, .int r.m, .bl r.b, .ref t])) (cs.set p (y.1, t, r)) p (y.1, t, r) n' i' f' m := by
  have hm : y.1 ∈ cs.map (·.1) := List.mem_map_of_mem (List.mem_of_getElem? h.ch.get)
  obtain ⟨n1, n2, n3⟩ := h.nd
  have nOy : O ≠ y.1 := fun e => h.nO _ hm e.symm
  exact ⟨h.ch.put ht hz hk h1 h2, (set_zs2 h.ch.get hz).trans h.zs, by rw [upd_ne (n3 _ hm).symm]; exact h.hd, ⟨by rw [upd_ne nOy]; exact h.sO.hs, h.sO.n1, h.sO.n8, h.sO.i0, h.sO.i1, h.sO.hf⟩, h.c0, h.o0, h.d0, h.nCO, by rw [set_ad h.ch.get]; exact h.nO, h.hn⟩
theorem Cg.spec {H : Hp} {d C O : Addr} {ys : List PgE} {n : Int} {H' : Hp} {cs : List PgE} {p : Nat} {y : PgE} {n' i' n2 i2 : Int} {f' f2 : V} {m : Int} (h : Cg H d C O ys n H' cs p y n' i' f' m) (a1 : 1 ≤ n2) (a2 : n2 ≤ 8) (a3 : 0 ≤ i2) (a4 : i2 ≤ n2 - 1) (a5 : PhOk f2 n2) (a6 : n ≤ n2) :
    Cg H d C O ys n (upd H' O (.lst [.int n2, .int i2, f2])) cs p y n2 i2 f2 m := by
  obtain ⟨n1, nOd, n3⟩ := h.nd
  refine ⟨⟨fun b o nb e => ?_, h.ch.rows.upd_other h.sO.hs h.nCO h.nO, h.ch.ok, h.ch.nd, h.ch.len, h.ch.get, h.ch.fr⟩, h.zs, by rw [upd_ne nOd.symm]; exact h.hd, ⟨upd_same, a1, a2, a3, a4, a5⟩, h.c0, h.o0, h.d0, h.nCO, h.nO, a6⟩
  rw [upd_ne (ne_of_none e h.o0)]
  exact h.ch.sx b o nb e
theorem Cg.draw {H : Hp} {d C O : Addr} {ys : List PgE} {n : Int} {H' : Hp} {cs : List PgE} {p : Nat} {y : PgE} {n' i' : Int} {f' : V} {m : Int} (h : Cg H d C O ys n H' cs p y n' i' f' m) (m2 : Int) : Cg H d C O ys n (upd H' d (.lst [.int m2])) cs p y n' i' f' m2 := by
  obtain ⟨n1, nOd, n3⟩ := h.nd
  exact ⟨⟨h.ch.sx.trans SameX.upd, h.ch.rows.upd_other h.hd n1 n3, h.ch.ok, h.ch.nd, h.ch.len, h.ch.get, h.ch.fr⟩, h.zs, upd_same, ⟨by rw [upd_ne nOd]; exact h.sO.hs, h.sO.n1, h.sO.n8, h.sO.i0, h.sO.i1, h.sO.hf⟩, h.c0, h.o0, h.d0, h.nCO, h.nO, h.hn⟩
theorem sc_law_changed : FnScope ["_law_draw", "_law_rows_here", "_law_spec_here", "_law_kind", "_law_out", "_law_row_here", "_law_other"] ["_law_draw", "_law_rows_here", "_law_spec_here"] (defScope s_law_changed) := ⟨rfl, rfl, rfl, by decide +kernel, rfl, by decide +kernel, by decide +kernel⟩
-- slots: 0 _law_draw, 1 _law_rows_here, 2 _law_spec_here, 3 _law_kind, 4 _law_out, 5 _law_row_here, 6 _law_other
def spChg : Sp := fun vs H Q _ => ∃ (d R s : Addr) (m n i : Int) (f : V) (ys : List PgE), vs = [.ref d, .ref R, .ref s] ∧ H d = some (.lst [.int m]) ∧ RowsA H R ys ∧ RowsOk ys ∧ SpA H s n i f ∧
  ∀ H' P C O cs n' i' f', SameX d H H' → H' P = some (.lst [.ref C, .ref O]) → RowsA H' C cs → RowsOk cs → zsOf cs = zsOf ys → SpA H' O n' i' f' → Q (.ref P) H'
theorem ok_law_changed {fd : FuncData} (F : FnD K ("_law_changed", none) "_law_changed" "_law_changed" s_law_changed fd) (T : Txt K mg) (O_law_take : OkF P w K mg base CX0 1 "_law_take" ["_law_draw", "_law_size"] spTake) : OkF P w K mg base CX0 2 "_law_changed" ["_law_draw", "_law_rows_here", "_law_spec_here"] spChg := by
  refine okd F (F.ok sc_law_changed (fun vs H Q E h => ?_) fun cdv A outer s H vs Q E hr h => ?_) fun _ _ _ _ _ _ us hl => match us, hl with | [_, _, _], _ => rfl
  · obtain ⟨d, R, s, m, n, i, f, ys, rfl, _⟩ := h
    rfl
  · obtain ⟨d, R, sp, m, n, i, f, ys, rfl, hd, hR, hok, hsp, k⟩ := h
    refine ⟨_, PSs.nox (pss_cons (ps_set (i := 3) sc_law_changed.nd rfl (Or.inl rfl) (c_fn O_law_take hr (by decide) T.g_law_take pass0 (pa_cons (pv 0) (pa_cons pe_int pa_nil))))
  (pss_cons (ps_setLc (i := 4) (own := [("_law_row_here", 5)]) (g := gName 5) (tt := tYes) (by rfl) sc_law_changed.nd rfl rfl (sw_true rfl rfl rfl (by decide +kernel)) (pi_list (pv 1)) (blkOk_by (N := ["_law_draw", "_law_rows_here", "_law_spec_here", "_law_kind", "_law_out", "_law_row_here", "_law_other"]) (sc := defScope s_law_changed) (by decide +kernel)) (fun _ _ _ _ _ => (pg_name (i := 5) sc_law_changed.nd rfl (Or.inl rfl))) (fun _ _ _ _ _ => pts_nil) (fun _ _ _ _ _ => (pe_callTy (call_listB (K := K) rfl) (by rfl) T.z_list (by decide +kernel) (pa_cons (pv 5) pa_nil))))
  (pss_cons (ps_set (i := 6) sc_law_changed.nd rfl (Or.inl rfl) (pe_callTy call_list_of (by rfl) T.z_list (by decide +kernel) (pa_cons (pv 2) pa_nil)))
  (pss_cons (ps_set (i := 5) sc_law_changed.nd rfl (Or.inl rfl) (pe_ix ix_list (pv 4) (c_fn O_law_take hr (by decide) T.g_law_take pass0 (pa_cons (pv 0) (pa_cons (pe_callB (id := "len") call_len_seq (by rfl) T.z_len (by decide +kernel) (pa_cons (pv 4) pa_nil)) pa_nil))) (fun _ _ => rfl)))
  (C8.pss_cut (ps_if (PW.pt (pw_and (pt_cmpR op_eq (pv 3) pe_int (nomark _)) (pw_and1 (pt_cmpR op_lt (pe_ix ix_list (pv 5) pe_int (fun _ _ => rfl)) (pe_ix ix_list (pv 5) pe_int (fun _ _ => rfl)) (nomark _))))) (pss_one (ps_augS (pv 5) pe_int pget_list pe_int ip_add set_list))
  pss_nil)
  (C8.pss_cut (ps_if (PW.pt (pw_and (pt_cmpR op_eq (pv 3) pe_int (nomark _)) (pw_and1 (pt_cmpR op_lt (pe_ix ix_list (pv 5) pe_int (fun _ _ => rfl)) (pe_ix ix_list (pv 5) pe_int (fun _ _ => rfl)) (nomark _))))) (pss_one (ps_augS (pv 5) pe_int pget_list pe_int ip_sub set_list))
  pss_nil)
  (C8.pss_cut (ps_if (pt_cmpR op_eq (pv 3) pe_int (nomark _)) (pss_one (ps_asg (pe_not (pe_ix ix_list (pv 5) pe_int (fun _ _ => rfl))) (pg_sub (pv 5) pe_int set_list)))
  pss_nil)
  (C8.pss_cut (ps_if (pt_cmpR op_eq (pv 3) pe_int (nomark _)) (pss_one (ps_asg (pe_slice sl_tupA (pe_ix ix_list (pv 5) pe_int (fun _ _ => rfl)) (po_some pe_int) po_none) (pg_sub (pv 5) pe_int set_list)))
  pss_nil)
  (C8.pss_cut (ps_if (pt_cmpR op_eq (pv 3) pe_int (nomark _)) (pss_one (ps_asg (pe_op op_catA (pe_slice sl_tupA (pe_ix ix_list (pv 5) pe_int (fun _ _ => rfl)) (po_some pe_int) po_none) (pe_slice sl_tupA (pe_ix ix_list (pv 5) pe_int (fun _ _ => rfl)) po_none (po_some pe_int))) (pg_sub (pv 5) pe_int set_list)))
  pss_nil)
  (C8.pss_cut (ps_if (PW.pt (pw_and (pt_cmpR op_eq (pv 3) pe_int (nomark _)) (pw_and1 (pt_cmpR op_lt (pe_ix ix_list (pv 2) pe_int (fun _ _ => rfl)) pe_int (nomark _))))) (pss_one (ps_augS (pv 6) pe_int pget_list pe_int ip_add set_list))
  pss_nil)
  (C8.pss_cut (ps_if (pt_cmpR op_eq (pv 3) pe_int (nomark _)) (pss_one (ps_asg (c_fn O_law_take hr (by decide) T.g_law_take pass0 (pa_cons (pv 0) (pa_cons (pe_ix ix_list (pv 2) pe_int (fun _ _ => rfl)) pa_nil))) (pg_sub (pv 6) pe_int set_list)))
  pss_nil)
  (C8.pss_cut (ps_if (pt_cmpR op_eq (pv 3) pe_int (nomark _)) (pss_one (ps_asg (c_fn O_law_take hr (by decide) T.g_law_take pass0 (pa_cons (pv 0) (pa_cons (pe_ix ix_list (pv 2) pe_int (fun _ _ => rfl)) pa_nil))) (pg_sub (pv 6) pe_int set_list)))
  pss_nil)
  (pss_one (ps_ret (pe_lst (pa_cons (pv 4) (pa_cons (pv 6) pa_nil))))))))))))))))), ?_⟩
    have nspd : sp ≠ d := fun e => by
      have h1 := hsp.hs
      rw [e, hd] at h1
      cases h1
    have hd0 : H d ≠ none := by rw [hd]; intro z; cases z
    refine ⟨_, rfl, d, m, 8, rfl, hd, by decide, by decide, fun kd m1 k0 k1 => ?_⟩
    have x1 : SameX d H (upd H d (.lst [.int m1])) := SameX.upd
    have hd1 := upd_same (H := H) (a := d) (o := .lst [.int m1])
    have hR1 := hR.extX hd x1
    have hs1 : SpA (upd H d (.lst [.int m1])) sp n i f := ⟨x1 _ _ nspd hsp.hs, hsp.n1, hsp.n8, hsp.i0, hsp.i1, hsp.hf⟩
    have back : ∀ {b}, upd H d (.lst [.int m1]) b = none → H b = none := fun {b} e => by
      rw [upd_ne (fun z => by rw [z, upd_same] at e; cases e)] at e
      exact e
    generalize upd H d (.lst [.int m1]) = H1 at x1 hd1 hR1 hs1 back ⊢
    have hl6 := hok.l6
    refine ⟨_, rfl, R, rfl, ⟨_, SqL.of hR1.hR⟩, fun C nC => lc_it walk_list (fun j H' => Same H1 H' ∧ ∃ cs : List PgE, RowsA H' C cs ∧ cs.map (·.2) = (ys.take j).map (·.2) ∧ (cs.map (·.1)).Nodup ∧ (∀ a ∈ cs.map (·.1), H1 a = none)) ⟨same_new nC, [], ⟨upd_same, (fun _ h => nomatch h)⟩, rfl, List.nodup_nil, (fun _ h => nomatch h)⟩ (fun j H' _ h => h.1.seq (SqL.of hR1.hR)) ?_ ?_⟩
    · rintro j x H2 H' hj ⟨sg, cs, hD, hb, hnd, hfr⟩ ⟨rfl, hx⟩
      obtain ⟨y, hy, rfl⟩ := getE hx
      have hyr := (hR1.ext sg).row y (List.mem_of_getElem? hy)
      refine ⟨rfl, _, rfl, y.1, _, rfl, .inl (SqL.of hyr.1), fun a na => ?_⟩
      have sa := same_new (o := .lst [.str y.2.2.z, .int y.2.2.l, .int y.2.2.m, .bl y.2.2.b, .ref y.2.1]) na
      have hrow : RowA (upd H' a (.lst [.str y.2.2.z, .int y.2.2.l, .int y.2.2.m, .bl y.2.2.b, .ref y.2.1])) (a, y.2) := ⟨upd_same, sa _ _ hyr.2⟩
      have hDa := hD.ext sa
      have na0 : H1 a = none := none_of sg na
      have nas : a ∉ cs.map (·.1) := fun hm => by
        obtain ⟨c, hc, e⟩ := List.mem_map.mp hm
        have := (hD.row c hc).1
        rw [e, na] at this
        cases this
      have hcl : cs.length ≤ 6 := by
        have := congrArg List.length hb
        simp only [List.length_map, List.length_take] at this
        omega
      refine ⟨_, hDa.hR, ?_, same_app sg sa nC, cs ++ [(a, y.2)], hDa.add hrow, ?_, ?_, fun b hbm => ?_⟩
      · rw [List.length_map]
        exact Nat.lt_of_le_of_lt hcl (by decide)
      · rw [List.map_append, hb, List.take_add_one, List.map_append, hy]
        rfl
      · rw [List.map_append]
        exact nodup_add hnd nas
      · rw [List.map_append] at hbm
        rcases List.mem_append.mp hbm with h | h
        · exact hfr b h
        · have : b = a := by simpa using h
          rw [this]
          exact na0
    rintro H2 ⟨s2, cs0, hC, hb, hnd, hfr⟩
    rw [List.length_map, List.take_length] at hb
    have hB : Beside cs0 ys := hb
    have hok0 : RowsOk cs0 := by
      refine ⟨by rw [hB.zs]; exact hok.nd, by rw [hB.len]; exact hok.l1, by rw [hB.len]; exact hok.l6, fun c hc => ?_, fun c hc => ?_⟩
      · obtain ⟨y, hy, e⟩ := hB.mem hc
        rw [← e]
        exact hok.kp y hy
      · obtain ⟨y, hy, e⟩ := hB.mem hc
        rw [← e, hB.zs]
        exact hok.ns y hy
    have hs2 := hs1.ext s2
    have hd2 := s2 _ _ hd1
    refine ⟨_, rfl, sp, _, rfl, .inl (SqL.of hs2.hs), fun O nO => ?_⟩
    have s3 := same_new (o := .lst [.int n, .int i, f]) nO
    have hO3 := upd_same (H := H2) (a := O) (o := .lst [.int n, .int i, f])
    have hC3 := hC.ext s3
    have hd3 := s3 _ _ hd2
    have nCO : C ≠ O := ne_of_none hC.hR nO
    have nyO : ∀ b ∈ cs0.map (·.1), b ≠ O := fun b hbm => by
      obtain ⟨c, hc, rfl⟩ := List.mem_map.mp hbm
      exact ne_of_none (hC.row c hc).1 nO
    have s13 := s2.trans s3
    have nO1 := none_of s2 nO
    have x3 : SameX d H (upd H2 O (.lst [.int n, .int i, f])) := x1.trans (same_x s13)
    generalize upd H2 O (.lst [.int n, .int i, f]) = H3 at s3 hO3 hC3 hd3 s13 x3 ⊢
    have hlc : ((cs0.map fun y => V.ref y.1).length : Int) = (cs0.length : Int) := by rw [List.length_map]
    refine ⟨_, rfl, _, rfl, _, rfl, C, _, rfl, .inl (SqL.of hC3.hR), ?_⟩
    rw [hlc]
    have h1 := hok0.l1
    have h6 := hok0.l6
    refine ⟨d, m1, (cs0.length : Int), rfl, hd3, by omega, by omega, fun r m4 r0 r1 => ?_⟩
    have hr1 : r.toNat < cs0.length := by omega
    obtain ⟨y0, hy0⟩ : ∃ y, cs0[r.toNat]? = some y := ⟨_, List.getElem?_eq_getElem hr1⟩
    have cg3 : Cg H d C O ys n H3 cs0 r.toNat y0 n i f m1 := ⟨⟨x3, hC3, hok0, hnd, hB.len, hy0, fun b hbm => back (hfr b hbm)⟩, hB.zs, hd3, ⟨hO3, hsp.n1, hsp.n8, hsp.i0, hsp.i1, hsp.hf⟩, back nC, back nO1, hd0, nCO, nyO, Int.le_refl _⟩
    have cg4 := cg3.draw m4
    generalize upd H3 d (.lst [.int m4]) = H4 at cg4 ⊢
    refine ⟨C, _, r, .ref y0.1, rfl, rfl, SqL.of cg4.ch.rows.hR, atI_int r0 (by rw [List.getElem?_map, hy0]; rfl), ?_⟩
    obtain ⟨p, hp⟩ : ∃ p, r.toNat = p := ⟨_, rfl⟩
    rw [hp] at cg4
    have hspx : ∀ {H'}, SameX d H H' → H' sp = some (.lst [.int n, .int i, f]) := fun sx => sx _ _ nspd hsp.hs
    clear cg3 hr1 hlc h1 h6 x3 s13 hd3 hC3 hO3 s3 nO1 nyO nCO hd2 hs2 hB hfr hnd hb hC s2 hs1 hR1 hd1 x1 nO H3 H2 back nC hok0 hy0 hp H1 r0 r1 r
    show C8.tCut _ _ _ [some (.ref d), some (.ref R), some (.ref sp), some (.int kd), some (.ref C), some (.ref y0.1), some (.ref O)] H4
    refine ⟨fun σ' H' => ∃ cs y m', Cg H d C O ys n H' cs p y n i f m' ∧ σ' = [some (.ref d), some (.ref R), some (.ref sp), some (.int kd), some (.ref C), some (.ref y.1), some (.ref O)], ?_, ?_⟩
    · have skip : ∃ cs y m', Cg H d C O ys n H4 cs p y n i f m' ∧ ([some (.ref d), some (.ref R), some (.ref sp), some (.int kd), some (.ref C), some (.ref y0.1), some (.ref O)] : L2.St) = [some (.ref d), some (.ref R), some (.ref sp), some (.int kd), some (.ref C), some (.ref y.1), some (.ref O)] := ⟨_, _, _, cg4, rfl⟩
      have hy := cg4.ch.row
      have hkp := cg4.ch.ok.kp y0 (List.mem_of_getElem? cg4.ch.get)
      have hns := cg4.ch.ok.ns y0 (List.mem_of_getElem? cg4.ch.get)
      refine ⟨_, rfl, rfl, _, rfl, ite2 (fun _ => ?_) fun _ => skip⟩
      refine ⟨_, rfl, y0.1, _, 1, .int y0.2.2.l, rfl, rfl, SqL.of hy.1, atI1, _, rfl, y0.1, _, 2, .int y0.2.2.m, rfl, rfl, SqL.of hy.1, atI_nat (j := 2) rfl, _, _, rfl, rfl, _, rfl, ite2 (fun hlt => ?_) fun _ => skip⟩
      have hlt2 : y0.2.2.l < y0.2.2.m := of_decide_eq_true hlt
      
      refine ⟨_, rfl, y0.1, _, 1, .int y0.2.2.l, rfl, rfl, SqL.of hy.1, rfl, _, _, rfl, rfl, y0.1, _, 1, 1, rfl, rfl, hy.1, ixN1, ?_⟩
      exact ⟨_, _, _, cg4.put (r := ⟨y0.2.2.z, y0.2.2.l + 1, y0.2.2.m, y0.2.2.b, y0.2.2.ns⟩) hy.2 rfl ⟨hkp.1, hkp.2.1, by show 1 ≤ y0.2.2.l + 1; have := hkp.2.2.1; omega, by show y0.2.2.l + 1 ≤ y0.2.2.m; omega, hkp.2.2.2.2⟩ hns.1 hns.2, rfl⟩
    clear cg4 y0 H4 cs0 m4
    rintro σ H3 ⟨cs3, y3, m3, ch3, rfl⟩
    refine ⟨fun σ' H' => ∃ cs y m', Cg H d C O ys n H' cs p y n i f m' ∧ σ' = [some (.ref d), some (.ref R), some (.ref sp), some (.int kd), some (.ref C), some (.ref y.1), some (.ref O)], ?_, ?_⟩
    · have skip : ∃ cs y m', Cg H d C O ys n H3 cs p y n i f m' ∧ ([some (.ref d), some (.ref R), some (.ref sp), some (.int kd), some (.ref C), some (.ref y3.1), some (.ref O)] : L2.St) = [some (.ref d), some (.ref R), some (.ref sp), some (.int kd), some (.ref C), some (.ref y.1), some (.ref O)] := ⟨_, _, _, ch3, rfl⟩
      have hy := ch3.ch.row
      have hkp := ch3.ch.ok.kp y3 (List.mem_of_getElem? ch3.ch.get)
      have hns := ch3.ch.ok.ns y3 (List.mem_of_getElem? ch3.ch.get)
      refine ⟨_, rfl, rfl, _, rfl, ite2 (fun _ => ?_) fun _ => skip⟩
      refine ⟨_, rfl, y3.1, _, 1, .int y3.2.2.l, rfl, rfl, SqL.of hy.1, atI1, _, rfl, y3.1, _, 2, .int y3.2.2.m, rfl, rfl, SqL.of hy.1, atI_nat (j := 2) rfl, _, _, rfl, rfl, _, rfl, ite2 (fun hlt => ?_) fun _ => skip⟩
      have hlt2 : y3.2.2.l < y3.2.2.m := of_decide_eq_true hlt
      
      refine ⟨_, rfl, y3.1, _, 2, .int y3.2.2.m, rfl, rfl, SqL.of hy.1, rfl, _, _, rfl, rfl, y3.1, _, 2, 2, rfl, rfl, hy.1, ixN2, ?_⟩
      exact ⟨_, _, _, ch3.put (r := ⟨y3.2.2.z, y3.2.2.l, y3.2.2.m - 1, y3.2.2.b, y3.2.2.ns⟩) hy.2 rfl ⟨hkp.1, hkp.2.1, hkp.2.2.1, by show y3.2.2.l ≤ y3.2.2.m - 1; omega, by show y3.2.2.m - 1 ≤ 6; have := hkp.2.2.2.2; omega⟩ hns.1 hns.2, rfl⟩
    clear ch3 cs3 y3 m3 H3
    rintro σ H3 ⟨cs3, y3, m3, ch3, rfl⟩
    refine ⟨fun σ' H' => ∃ cs y m', Cg H d C O ys n H' cs p y n i f m' ∧ σ' = [some (.ref d), some (.ref R), some (.ref sp), some (.int kd), some (.ref C), some (.ref y.1), some (.ref O)], ?_, ?_⟩
    · have skip : ∃ cs y m', Cg H d C O ys n H3 cs p y n i f m' ∧ ([some (.ref d), some (.ref R), some (.ref sp), some (.int kd), some (.ref C), some (.ref y3.1), some (.ref O)] : L2.St) = [some (.ref d), some (.ref R), some (.ref sp), some (.int kd), some (.ref C), some (.ref y.1), some (.ref O)] := ⟨_, _, _, ch3, rfl⟩
      have hy := ch3.ch.row
      have hkp := ch3.ch.ok.kp y3 (List.mem_of_getElem? ch3.ch.get)
      have hns := ch3.ch.ok.ns y3 (List.mem_of_getElem? ch3.ch.get)
      refine ⟨_, rfl, rfl, _, rfl, ite2 (fun _ => ?_) fun _ => skip⟩
      refine ⟨_, rfl, y3.1, _, 3, .bl y3.2.2.b, rfl, rfl, SqL.of hy.1, atI_nat (j := 3) rfl, y3.2.2.b, rfl, _, rfl, y3.1, _, 3, 3, rfl, rfl, hy.1, ixN3, ?_⟩
      exact ⟨_, _, _, ch3.put (r := ⟨y3.2.2.z, y3.2.2.l, y3.2.2.m, !y3.2.2.b, y3.2.2.ns⟩) hy.2 rfl hkp hns.1 hns.2, rfl⟩
    clear ch3 cs3 y3 m3 H3
    rintro σ H3 ⟨cs3, y3, m3, ch3, rfl⟩
    refine ⟨fun σ' H' => ∃ cs y m', Cg H d C O ys n H' cs p y n i f m' ∧ σ' = [some (.ref d), some (.ref R), some (.ref sp), some (.int kd), some (.ref C), some (.ref y.1), some (.ref O)], ?_, ?_⟩
    · have skip : ∃ cs y m', Cg H d C O ys n H3 cs p y n i f m' ∧ ([some (.ref d), some (.ref R), some (.ref sp), some (.int kd), some (.ref C), some (.ref y3.1), some (.ref O)] : L2.St) = [some (.ref d), some (.ref R), some (.ref sp), some (.int kd), some (.ref C), some (.ref y.1), some (.ref O)] := ⟨_, _, _, ch3, rfl⟩
      have hy := ch3.ch.row
      have hkp := ch3.ch.ok.kp y3 (List.mem_of_getElem? ch3.ch.get)
      have hns := ch3.ch.ok.ns y3 (List.mem_of_getElem? ch3.ch.get)
      refine ⟨_, rfl, rfl, _, rfl, ite2 (fun _ => ?_) fun _ => skip⟩
      refine ⟨_, rfl, y3.1, _, 4, .ref y3.2.1, rfl, rfl, SqL.of hy.1, atI_nat (j := 4) rfl, 1, rfl, ?_⟩
      unfold tNoPart
      dsimp only
      refine slA_of hy.2 fun H4 t s4 ht => ?_
      rw [cut_drop1] at ht
      have ch4 := ch3.ext s4
      refine ⟨_, rfl, y3.1, _, 4, 4, rfl, rfl, ch4.ch.row.1, ixN4, ?_⟩
      exact ⟨_, _, _, ch4.put (r := ⟨y3.2.2.z, y3.2.2.l, y3.2.2.m, y3.2.2.b, y3.2.2.ns.drop 1⟩) ht rfl hkp (fun v hv => hns.1 v (List.mem_of_mem_drop hv)) (hns.2.sublist (List.drop_sublist _ _)), rfl⟩
    clear ch3 cs3 y3 m3 H3
    rintro σ H3 ⟨cs3, y3, m3, ch3, rfl⟩
    refine ⟨fun σ' H' => ∃ cs y m', Cg H d C O ys n H' cs p y n i f m' ∧ σ' = [some (.ref d), some (.ref R), some (.ref sp), some (.int kd), some (.ref C), some (.ref y.1), some (.ref O)], ?_, ?_⟩
    · have skip : ∃ cs y m', Cg H d C O ys n H3 cs p y n i f m' ∧ ([some (.ref d), some (.ref R), some (.ref sp), some (.int kd), some (.ref C), some (.ref y3.1), some (.ref O)] : L2.St) = [some (.ref d), some (.ref R), some (.ref sp), some (.int kd), some (.ref C), some (.ref y.1), some (.ref O)] := ⟨_, _, _, ch3, rfl⟩
      have hy := ch3.ch.row
      have hkp := ch3.ch.ok.kp y3 (List.mem_of_getElem? ch3.ch.get)
      have hns := ch3.ch.ok.ns y3 (List.mem_of_getElem? ch3.ch.get)
      refine ⟨_, rfl, rfl, _, rfl, ite2 (fun _ => ?_) fun _ => skip⟩
      refine ⟨_, rfl, y3.1, _, 4, .ref y3.2.1, rfl, rfl, SqL.of hy.1, atI_nat (j := 4) rfl, 1, rfl, ?_⟩
      unfold tNoPart
      dsimp only
      refine slA_of hy.2 fun H4 t s4 ht => ?_
      rw [cut_drop1] at ht
      have ch4 := ch3.ext s4
      refine ⟨_, rfl, y3.1, _, 4, .ref y3.2.1, rfl, rfl, SqL.of ch4.ch.row.1, atI_nat (j := 4) rfl, 1, rfl, ?_⟩
      dsimp only
      refine slA_of ch4.ch.row.2 fun H5 t2 s5 ht2 => ?_
      rw [cut_take1] at ht2
      have ht5 := s5 _ _ ht
      have ch5 := ch4.ext s5
      refine catA_of ht5 ht2 ?_ fun H6 t3 s6 ht3 => ?_
      · have h1 := nodup_le hns.2 hns.1
        have h3 : (zsOf cs3).length = cs3.length := List.length_map ..
        have h4 := ch3.ch.ok.l6
        rw [List.length_map, List.length_map, List.length_drop, List.length_take]
        exact Nat.le_trans (show y3.2.2.ns.length - 1 + min 1 y3.2.2.ns.length ≤ 7 by omega) (by decide)
      have ch6 := ch5.ext s6
      rw [← List.map_append] at ht3
      refine ⟨_, rfl, y3.1, _, 4, 4, rfl, rfl, ch6.ch.row.1, ixN4, ?_⟩
      have hrot := rot_ok hns.1 hns.2
      exact ⟨_, _, _, ch6.put (r := ⟨y3.2.2.z, y3.2.2.l, y3.2.2.m, y3.2.2.b, y3.2.2.ns.drop 1 ++ y3.2.2.ns.take 1⟩) ht3 rfl hkp hrot.1 hrot.2, rfl⟩
    clear ch3 cs3 y3 m3 H3
    rintro σ H3 ⟨cs3, y3, m3, ch3, rfl⟩
    have hq1 := hsp.n1
    refine ⟨fun σ' H' => ∃ cs y n' i' f' m', Cg H d C O ys n H' cs p y n' i' f' m' ∧ σ' = [some (.ref d), some (.ref R), some (.ref sp), some (.int kd), some (.ref C), some (.ref y.1), some (.ref O)], ?_, ?_⟩
    · have skip : ∃ cs y n' i' f' m', Cg H d C O ys n H3 cs p y n' i' f' m' ∧ ([some (.ref d), some (.ref R), some (.ref sp), some (.int kd), some (.ref C), some (.ref y3.1), some (.ref O)] : L2.St) = [some (.ref d), some (.ref R), some (.ref sp), some (.int kd), some (.ref C), some (.ref y.1), some (.ref O)] := ⟨_, _, _, _, _, _, ch3, rfl⟩
      refine ⟨_, rfl, rfl, _, rfl, ite2 (fun _ => ?_) fun _ => skip⟩
      refine ⟨_, rfl, sp, _, 0, .int n, rfl, rfl, SqL.of (hspx ch3.ch.sx), atI0, _, _, rfl, rfl, _, rfl, ite2 (fun hlt => ?_) fun _ => skip⟩
      have hlt2 : n < 8 := of_decide_eq_true hlt
      have hsO := ch3.sO
      refine ⟨_, rfl, O, _, 0, .int n, rfl, rfl, SqL.of hsO.hs, rfl, _, _, rfl, rfl, O, _, 0, 0, rfl, rfl, hsO.hs, ixN0, ?_⟩
      exact ⟨_, _, n + 1, i, f, _, ch3.spec (n2 := n + 1) (by omega) (by omega) hsO.i0 (by have := hsO.i1; omega) (hsO.hf.imp id fun ⟨q, e, a, b⟩ => ⟨q, e, a, by omega⟩) (by omega), rfl⟩
    clear ch3 cs3 y3 m3 H3
    rintro σ H3 ⟨cs3, y3, n3, i3, f3, m3, ch3, rfl⟩
    refine ⟨fun σ' H' => ∃ cs y n' i' f' m', Cg H d C O ys n H' cs p y n' i' f' m' ∧ σ' = [some (.ref d), some (.ref R), some (.ref sp), some (.int kd), some (.ref C), some (.ref y.1), some (.ref O)], ?_, ?_⟩
    · refine ⟨_, rfl, rfl, _, rfl, ite2 (fun _ => ?_) fun _ => ⟨_, _, _, _, _, _, ch3, rfl⟩⟩
      refine ⟨_, rfl, _, rfl, sp, _, 0, .int n, rfl, rfl, SqL.of (hspx ch3.ch.sx), atI0, d, m3, n, rfl, ch3.hd, by omega, by have := hsp.n8; omega, fun r m4 r0 r1 => ?_⟩
      have cg := ch3.draw m4
      have hsO := cg.sO
      have hn := cg.hn
      refine ⟨_, rfl, O, _, 1, 1, rfl, rfl, hsO.hs, ixN1, ?_⟩
      exact ⟨_, _, n3, r, f3, _, cg.spec hsO.n1 hsO.n8 r0 (by omega) hsO.hf hn, rfl⟩
    clear ch3 cs3 y3 m3 H3 n3 i3 f3
    rintro σ H3 ⟨cs3, y3, n3, i3, f3, m3, ch3, rfl⟩
    refine ⟨fun σ' H' => ∃ cs y n' i' f' m', Cg H d C O ys n H' cs p y n' i' f' m' ∧ σ' = [some (.ref d), some (.ref R), some (.ref sp), some (.int kd), some (.ref C), some (.ref y.1), some (.ref O)], ?_, ?_⟩
    · refine ⟨_, rfl, rfl, _, rfl, ite2 (fun _ => ?_) fun _ => ⟨_, _, _, _, _, _, ch3, rfl⟩⟩
      refine ⟨_, rfl, _, rfl, sp, _, 0, .int n, rfl, rfl, SqL.of (hspx ch3.ch.sx), atI0, d, m3, n, rfl, ch3.hd, by omega, by have := hsp.n8; omega, fun r m4 r0 r1 => ?_⟩
      have cg := ch3.draw m4
      have hsO := cg.sO
      have hn := cg.hn
      refine ⟨_, rfl, O, _, 2, 2, rfl, rfl, hsO.hs, ixN2, ?_⟩
      exact ⟨_, _, n3, i3, .int r, _, cg.spec hsO.n1 hsO.n8 hsO.i0 hsO.i1 (.inr ⟨r, rfl, r0, by omega⟩) hn, rfl⟩
    clear ch3 cs3 y3 m3 H3 n3 i3 f3
    rintro σ H3 ⟨cs3, y3, n3, i3, f3, m3, ch3, rfl⟩
    refine ⟨_, rfl, _, rfl, (by show 2 ≤ sizeLine; decide), fun P nP => ?_⟩
    have sP := same_new (o := .lst [.ref C, .ref O]) nP
    have cg := ch3.ext sP
    exact k _ P C O cs3 n3 i3 f3 cg.ch.sx upd_same cg.ch.rows cg.ch.ok cg.zs cg.sO
end
end K36

set_option Elab.async false
set_option linter.all false
set_option pp.deepTerms.threshold 14
set_option pp.maxSteps 2500
set_option maxRecDepth 100000
set_option maxHeartbeats 2000000
namespace K36
open PySem PySem.Spec PyProof.Rows L2 Vf
section
variable {P : Program} {w : World} {K : PySem.W.Frag} {mg : Str → Option Value} {base : Heap}
theorem sc_law_same : FnScope ["_law_program_here", "_law_rows_here", "_law_begin", "_law_row_here", "_law_place"] ["_law_program_here", "_law_rows_here", "_law_begin"] (defScope s_law_same) := ⟨rfl, rfl, rfl, by decide +kernel, rfl, by decide +kernel, by decide +kernel⟩
-- slots: 0 _law_program_here, 1 _law_rows_here, 2 _law_begin, 3 _law_row_here, 4 _law_place
def spSam (K : PySem.W.Frag) : Sp := fun vs H Q _ => ∃ (g R : Addr) (xs ys : List PgE) (st : Str) (dx tn dP dN : Addr), vs = [.ref g, .ref R, .str st] ∧ PgA K H g xs st dx tn dP dN ∧ RowsA H R ys ∧ RowsOk ys ∧ xs.map (·.2.2) = ys.map (·.2.2) ∧ ∀ H', Same H H' → Q (.bl true) H'
theorem ok_law_same {fd : FuncData} (F : FnD K ("_law_same", none) "_law_same" "_law_same" s_law_same fd) (T : Txt K mg) (M : GMeth K) (O_law_is_integer : OkF P w K mg base CX0 1 "_law_is_integer" ["_law_value"] spIsInt) (O_law_nexts : OkF P w K mg base CX0 1 "_law_nexts" ["_law_rows_here"] spNxL) (O_getitem : OkM P w K mg base (L2.CX P w) 4 "Program" "__getitem__" ["self", "at"] (spGet K)) (O_nexts : OkG P w K mg base CX0 1 "Program" "nexts" (spNxT K)) : OkF P w K mg base CX0 6 "_law_same" ["_law_program_here", "_law_rows_here", "_law_begin"] (spSam K) := by
  refine okd F (F.ok sc_law_same (fun vs H Q E h => ?_) fun cdv A outer s H vs Q E hr h => ?_) fun _ _ _ _ _ _ us hl => match us, hl with | [_, _, _], _ => rfl
  · obtain ⟨g, R, xs, ys, st, dx, tn, dP, dN, rfl, _⟩ := h
    rfl
  · obtain ⟨g, R, xs, ys, st, dx, tn, dP, dN, rfl, hg, hR, hok, hxy, k⟩ := h
    refine ⟨_, PSs.nox (pss_cons (ps_if (PW.pt (pw_orB (pt_cmpR (op_neD hr.units) (pe_callTy call_list_of (by rfl) T.z_list (by decide +kernel) (pa_cons (pe_fld (pv 0) rfl) pa_nil)) (pe_lc (own := [("_law_row_here", 3)]) (g := gName 3) (tt := tYes) (by rfl) sc_law_same.nd (pi_list (pv 1)) (blkOk_by (N := ["_law_program_here", "_law_rows_here", "_law_begin", "_law_row_here", "_law_place"]) (sc := defScope s_law_same) (by decide +kernel)) (fun _ _ _ _ _ => (pg_name (i := 3) sc_law_same.nd rfl (Or.inl rfl))) (fun _ _ _ _ _ => pts_nil) (fun _ _ _ _ _ => (pe_ix (ix_listK (K := K) rfl) (pv 3) pe_int (fun _ _ => rfl)))) (nomark _)) (pw_or1 (pt_cmpR (op_neJ hr.units) (pe_propG (pv 0) T.c_Program O_nexts hr (by decide) rfl) (c_fn O_law_nexts hr (by decide) T.g_law_nexts pass0 (pa_cons (pv 1) pa_nil)) (nomark _))))) (pss_one (ps_ret pe_bl))
  pss_nil)
  (pss_cons (ps_for PassesOwn.never rfl (pi_list (pv 1)) (pg_name (i := 3) sc_law_same.nd rfl (Or.inl rfl))
  (pss_cons (ps_set (i := 4) sc_law_same.nd rfl (Or.inl rfl) (pe_subO (pv 0) (pe_ix ix_list (pv 3) pe_int (fun _ _ => rfl)) M.m_getitem M.f_getitem O_getitem hr (by decide) passL))
  (pss_cons (ps_if (PW.pt (pw_orB (pt_cmpR (op_neD hr.units) (pe_lst (pa_cons (pe_fld (pv 4) rfl) (pa_cons (pe_fld (pv 4) rfl) (pa_cons (pe_fld (pv 4) rfl) pa_nil)))) (pe_slice sl_list (pv 3) po_none (po_some pe_int)) (nomark _)) (pw_or1 (pt_cmpR op_ne (pe_fld (pv 4) rfl) (pe_ix ix_list (pv 3) pe_int (fun _ _ => rfl)) (nomark _))))) (pss_one (ps_ret pe_bl))
  pss_nil)
  (pss_one (ps_if (PW.pt (pw_orB (pt_not (pt_val (c_fn O_law_is_integer hr (by decide) T.g_law_is_integer pass0 (pa_cons (pe_fld (pv 4) rfl) pa_nil)))) (pw_orB (pt_not (pt_val (c_fn O_law_is_integer hr (by decide) T.g_law_is_integer pass0 (pa_cons (pe_fld (pv 4) rfl) pa_nil)))) (pw_or1 (pt_not (pt_val (pe_callB (id := "isinstance") call_isi (by rfl) T.z_isinstance (by decide +kernel) (pa_cons (pe_fld (pv 4) rfl) (pa_cons (pe_ty (n := "bool") T.z_bool (by decide +kernel)) pa_nil))))))))) (pss_one (ps_ret pe_bl))
  pss_nil)))))
  (pss_one (ps_ret (pe_cmpR op_eq (pe_fld (pv 0) rfl) (pv 2) (nomark _)))))), ?_⟩
    have hzz : zsOf xs = zsOf ys := by
      have := congrArg (List.map fun r : Rw => r.z) hxy
      rw [List.map_map, List.map_map] at this
      exact this
    have hlen : xs.length = ys.length := by
      have := congrArg List.length hxy
      rw [List.length_map, List.length_map] at this
      exact this
    have pair : ∀ {i : Nat} {y' : PgE}, ys[i]? = some y' → ∃ y, xs[i]? = some y ∧ y.2.2 = y'.2.2 := fun {i y'} h => by
      have h1 : (ys.map (·.2.2))[i]? = some y'.2.2 := by rw [List.getElem?_map, h]; rfl
      rw [← hxy, List.getElem?_map] at h1
      obtain ⟨y, hy, e⟩ := Option.map_eq_some_iff.mp h1
      exact ⟨y, hy, e⟩
    have hnm := hg.nm
    have lsh : SeqAt.shaped (.list ((zsOf xs).map PyData.str)) = true := by
      obtain ⟨h1, h2⟩ := strs_lay _ hnm
      unfold SeqAt.shaped
      rw [Bool.and_eq_true]
      refine ⟨h1, decide_eq_true ?_⟩
      simp only [PyData.depth]
      omega
    refine ⟨_, rfl, g, _, dx, _, _, rfl, hg.hg, T.c_Program, T.nA, pgf_names .., tn, _, rfl, .inr (SqT.of hg.hn), fun L nL => ?_⟩
    have s1 := same_new (o := .lst ((zsOf xs).map V.str)) nL
    have hL1 := upd_same (H := H) (a := L) (o := .lst ((zsOf xs).map V.str))
    show tLc _ _ _ _ _ _ (upd H L (.lst ((zsOf xs).map V.str))) _
    generalize upd H L (.lst ((zsOf xs).map V.str)) = H1 at s1 hL1 ⊢
    have hR1 := hR.ext s1
    refine ⟨_, rfl, R, rfl, ⟨_, SqL.of hR1.hR⟩, fun D nD => lc_it walk_list (fun j H' => Same H1 H' ∧ H' D = some (.lst ((zsOf (ys.take j)).map V.str))) ⟨same_new nD, upd_same⟩ (fun j H' _ h => h.1.seq (SqL.of hR1.hR)) ?_ ?_⟩
    · rintro j x H2 H' hj ⟨sg, hD⟩ ⟨rfl, hx⟩
      obtain ⟨y, hy, rfl⟩ := getE hx
      have hyr := (hR1.ext sg).row y (List.mem_of_getElem? hy)
      refine ⟨rfl, _, rfl, y.1, _, 0, .str y.2.2.z, rfl, rfl, SqL.of hyr.1, atI0, _, hD, ?_, same_app sg (Same.refl _) nD, ?_⟩
      · rw [List.length_map]
        have h6 := hok.l6
        refine Nat.lt_of_le_of_lt (show _ ≤ 6 from ?_) (show 6 < sizeLine by decide)
        show ((ys.take j).map _).length ≤ 6
        rw [List.length_map, List.length_take]
        omega
      · rw [upd_same]
        unfold zsOf
        rw [List.take_add_one, hy, List.map_append, List.map_append]
        rfl
    rintro H2 ⟨s2, hD⟩
    rw [List.length_map, List.take_length] at hD
    have s02 := s1.trans s2
    refine ⟨.list ((zsOf xs).map PyData.str), .list ((zsOf ys).map PyData.str), .lst (SqL.of (s2 _ _ hL1)) strs_dp, .lst (SqL.of hD) strs_dp, lsh, by rw [← hzz]; exact lsh, ?_⟩
    rw [← hzz, SeqAt.eqv_refl _ (SeqAt.canLay_of_shaped lsh)]
    have hg2 := hg.ext s02
    have hR2 := hR.ext s02
    refine ⟨_, rfl, false, fun H' => Same H2 H', fun _ => ?_, (fun c => Bool.noConfusion c), fun H3 s3 => ?_⟩
    · refine ⟨_, rfl, g, dx, _, rfl, hg2.hg, g, xs, st, dx, tn, dP, dN, rfl, hg2, fun H3 N s3 nN hN => ?_⟩
      refine ⟨_, rfl, R, ys, rfl, hR2.ext s3, hok.nd, hok.l6, fun H4 N2 s4 nN2 hN2 => ?_⟩
      have hg4 := hg2.ext (s3.trans s4)
      have hR4 := hR2.ext (s3.trans s4)
      refine ⟨N, N2, kvN xs, kvN ys, rfl, rfl, s4 _ _ hN, hN2, by unfold kvN; rw [List.length_map, List.length_map, hlen], fun p hp => ?_, _, rfl, rfl, s3.trans s4⟩
      obtain ⟨y, hy, rfl⟩ := List.mem_map.mp hp
      obtain ⟨i, hi⟩ := List.mem_iff_getElem?.mp hy
      have hlt : i < ys.length := hlen ▸ (List.getElem?_eq_some_iff.mp hi).1
      have hi2 : ys[i]? = some ys[i] := List.getElem?_eq_getElem hlt
      generalize ys[i] = y' at hi2
      obtain ⟨y2, h2, e2⟩ := pair hi2
      rw [hi] at h2
      obtain rfl : y = y2 := Option.some.inj h2
      have hns := hg4.ns y hy
      have hnsm : ∀ z ∈ y.2.2.ns, nmB z = true := fun z hm => hnm z (hns.2.1 z hm)
      have hv := val_row (f := fun y => V.ref y.2.1) hok.nd hi2
      have h1 := (hR4.row y' (List.mem_of_getElem? hi2)).2
      rw [← e2] at hv h1
      have hd := (strs_lay _ hnsm).2
      refine ⟨_, strD y.2.2.ns, strD y.2.2.ns, hv, strD_dp hns.1, strD_dp h1, SeqAt.canLay_of_shaped (strD_sh hnsm), SeqAt.canLay_of_shaped (strD_sh hnsm), ?_, ?_⟩
      · unfold strD
        simp only [PyData.depth]
        omega
      · rw [strD_eq]
        exact decide_eq_true rfl
    have hg3 := hg2.ext s3
    have hR3 := hR2.ext s3
    have s03 := s02.trans s3
    refine iteF ⟨_, rfl, R, rfl, ⟨_, SqL.of hR3.hR⟩, for_it walk_list (fun j σ H' => Same H3 H' ∧ ∃ v3 v4 : Option V, σ = [some (.ref g), some (.ref R), some (.str st), v3, v4]) ⟨Same.refl _, none, none, rfl⟩ (fun j σ H' _ h => h.1.seq (SqL.of hR3.hR)) ?_ ?_⟩
    · rintro j x σ H5 H' hj ⟨sg, v3, v4, rfl⟩ ⟨rfl, hx⟩
      obtain ⟨y', hy', rfl⟩ := getE hx
      obtain ⟨y, hy, e2⟩ := pair hy'
      have hg6 := hg3.ext sg
      have hyr := (hR3.ext sg).row y' (List.mem_of_getElem? hy')
      have hrow : H' y'.1 = some (.lst [.str y.2.2.z, .int y.2.2.l, .int y.2.2.m, .bl y.2.2.b, .ref y'.2.1]) := by rw [e2]; exact hyr.1
      obtain ⟨d1, hp⟩ := hg6.pl y (List.mem_of_getElem? hy)
      have hnz : nmB y.2.2.z = true := hnm _ (List.mem_map_of_mem (List.mem_of_getElem? hy))
      obtain ⟨r, er⟩ : ∃ r, y.2.2 = r := ⟨_, rfl⟩
      rw [er] at hrow hp hnz
      refine ⟨_, rfl, _, rfl, y'.1, _, 0, .str r.z, rfl, rfl, SqL.of hrow, atI0, g, dx, _, rfl, hg6.hg, g, _, xs, st, dx, tn, dP, dN, rfl, hg6, .inl ⟨j, y, hy, by rw [er], ?_⟩⟩
      have d3 : SeqAt.shaped (.list [.str r.z, .int r.l, .int r.m]) = true := by
        have h2 := nm_ok hnz
        unfold SeqAt.shaped
        rw [Bool.and_eq_true]
        refine ⟨by simp [PyData.canLay0, PyData.canLayAll0, h2], decide_eq_true ?_⟩
        simp only [PyData.depth, PyData.depthAll]
        omega
      have dp : ∀ {X : Hp} {u : Addr}, X u = some (.lst [.str r.z, .int r.l, .int r.m]) → Dp K X (.ref u) (.list [.str r.z, .int r.l, .int r.m]) := fun h => .lst (SqL.of h) (.cons (.str _) (.cons (.int _) (.cons (.int _) .nil)))
      refine ⟨_, rfl, y.1, _, d1, _, _, rfl, hp, T.c_Place, T.nN, plf_name .., _, rfl, y.1, _, d1, _, _, rfl, hp, T.c_Place, T.nL, plf_least .., _, rfl, y.1, _, d1, _, _, rfl, hp, T.c_Place, T.nM, plf_most .., (by show 3 ≤ sizeLine; decide), fun a na => ?_⟩
      have s6 := same_new (o := .lst [.str r.z, .int r.l, .int r.m]) na
      have ha := upd_same (H := H') (a := a) (o := .lst [.str r.z, .int r.l, .int r.m])
      have hrow6 := s6 _ _ hrow
      have hp6 := s6 _ _ hp
      show tSl _ _ _ _ _ (upd H' a (.lst [.str r.z, .int r.l, .int r.m])) _
      generalize upd H' a (.lst [.str r.z, .int r.l, .int r.m]) = H6 at s6 ha hrow6 hp6 ⊢
      refine ⟨_, rfl, 3, rfl, y'.1, _, rfl, SqL.of hrow6, fun b nb => ?_⟩
      rw [show cutV [.str r.z, .int r.l, .int r.m, .bl r.b, .ref y'.2.1] none (some 3) = [.str r.z, .int r.l, .int r.m] from rfl]
      have s7 := same_new (o := .lst [.str r.z, .int r.l, .int r.m]) nb
      have hb := upd_same (H := H6) (a := b) (o := .lst [.str r.z, .int r.l, .int r.m])
      have hrow7 := s7 _ _ hrow6
      have hp7 := s7 _ _ hp6
      have ha7 := s7 _ _ ha
      replace s7 := s6.trans s7
      generalize upd H6 b (.lst [.str r.z, .int r.l, .int r.m]) = H7 at s7 hb hrow7 hp7 ha7 ⊢
      refine ⟨_, _, dp ha7, dp hb, d3, d3, ?_⟩
      rw [SeqAt.eqv_refl _ (SeqAt.canLay_of_shaped d3)]
      refine ⟨_, rfl, false, (· = H7), fun _ => ⟨_, rfl, y.1, _, d1, _, _, rfl, hp7, T.c_Place, T.nT, plf_let .., _, rfl, y'.1, _, 3, .bl r.b, rfl, rfl, SqL.of hrow7, atI_nat (j := 3) rfl, rfl, _, rfl, by rw [decide_eq_true rfl]; rfl, rfl⟩, (fun c => Bool.noConfusion c), fun H8 e => ?_⟩
      subst e
      refine iteF ?_
      refine ⟨_, rfl, y.1, _, d1, _, _, rfl, hp7, T.c_Place, T.nL, plf_least .., _, rfl, .inl ⟨⟨_, rfl⟩, ?_⟩⟩
      refine ⟨_, rfl, false, (· = H8), fun _ => ⟨_, rfl, y.1, _, d1, _, _, rfl, hp7, T.c_Place, T.nM, plf_most .., _, rfl, .inl ⟨⟨_, rfl⟩, _, rfl, false, (· = H8), fun _ => ?_, (fun c => Bool.noConfusion c), fun H9 e => ⟨rfl, e⟩⟩⟩, (fun c => Bool.noConfusion c), fun H9 e => ?_⟩
      · exact ⟨_, rfl, y.1, _, d1, _, _, rfl, hp7, T.c_Place, T.nT, plf_let .., .bl r.b, .ty "bool", .type "bool", .type "bool", true, rfl, .ty _, .base (.bl _), kit_ty (by decide +kernel), true, rfl, rfl, rfl⟩
      · subst e
        exact iteF ⟨sg.trans s7, _, _, rfl⟩
    · rintro σ H5 ⟨sg, v3, v4, rfl⟩
      have hg5 := hg3.ext sg
      refine ⟨_, rfl, g, _, dx, _, _, rfl, hg5.hg, T.c_Program, T.nB, pgf_start .., _, rfl, rfl, ?_⟩
      show Q (.bl (decide (V.str st = .str st))) _
      rw [decide_eq_true rfl]
      exact k _ (s03.trans sg)
end
end K36

set_option Elab.async false
set_option linter.all false
set_option pp.deepTerms.threshold 14
set_option pp.maxSteps 2500
set_option maxRecDepth 100000
set_option maxHeartbeats 2000000
namespace K36
open PySem PySem.Spec PyProof.Rows L2 Vf
section
variable {P : Program} {w : World} {K : PySem.W.Frag} {mg : Str → Option Value} {base : Heap}
theorem nsW_inj {a b : List Str} (h : nsW a = nsW b) : a = b := by
  cases a with
  | nil =>
    cases b with
    | nil => rfl
    | cons y b =>
      have := congrArg List.length h
      simp [nsW] at this
  | cons x a =>
    cases b with
    | nil =>
      have := congrArg List.length h
      simp [nsW] at this
    | cons y b =>
      have h : ("to" : Str) :: x :: a = ("to" : Str) :: y :: b := h
      exact (List.cons.inj h).2
theorem dgS_inj {a b : Int} (a0 : 0 ≤ a) (a9 : a ≤ 9) (b0 : 0 ≤ b) (b9 : b ≤ 9) (h : dgS a = dgS b) : a = b := by
  have h1 := (dgI a0 a9).2.2.2.1
  have h2 := (dgI b0 b9).2.2.2.1
  rw [← h1, ← h2]
  show Txt.find DIG (dgS a) = Txt.find DIG (dgS b)
  rw [h]
theorem kdS_inj {a b : Bool} (h : kdS a = kdS b) : a = b := by
  cases a <;> cases b <;> first | rfl | exact absurd h (by decide +kernel)
theorem plL_inj {r r' : Rw} (h1 : RwOk r) (h2 : RwOk r') (h : plL r = plL r') : r = r' := by
  have e1 := okW_split (ws := plW r) (fun z => nomatch z) (plW_ok h1)
  have e2 := okW_split (ws := plW r') (fun z => nomatch z) (plW_ok h2)
  have h : Txt.join " " (plW r) = Txt.join " " (plW r') := h
  rw [h, e2] at e1
  obtain ⟨z, l, m, b, ns⟩ := r
  obtain ⟨z', l', m', b', ns'⟩ := r'
  have e1 : ("" : Str) :: ("" : Str) :: z' :: kdS b' :: dgS l' :: dgS m' :: nsW ns' = ("" : Str) :: ("" : Str) :: z :: kdS b :: dgS l :: dgS m :: nsW ns := e1
  injection e1 with _ e1
  injection e1 with _ e1
  injection e1 with ez e1
  injection e1 with eb e1
  injection e1 with el e1
  injection e1 with em en
  obtain ⟨_, a1, a2, a3, _⟩ := h1
  obtain ⟨_, b1, b2, b3, _⟩ := h2
  have a1 : 1 ≤ l := a1
  have a2 : l ≤ m := a2
  have a3 : m ≤ 6 := a3
  have b1 : 1 ≤ l' := b1
  have b2 : l' ≤ m' := b2
  have b3 : m' ≤ 6 := b3
  rw [ez, kdS_inj eb, dgS_inj (by omega) (by omega) (by omega) (by omega) el, dgS_inj (by omega) (by omega) (by omega) (by omega) em, nsW_inj en]
theorem phS_inj {f f' : V} {n n' : Int} (h1 : PhOk f n) (h2 : PhOk f' n') (a : n ≤ 8) (b : n' ≤ 8) (h : phS f = phS f') : f = f' := by
  have any : ∀ q : Int, 0 ≤ q → q ≤ 9 → dgS q ≠ "any" := fun q q0 q9 e => by
    have := (dgI q0 q9).2.2.1
    have e : Str.ofString (toString q) = "any" := e
    rw [e] at this
    exact absurd this (by decide +kernel)
  rcases h1 with rfl | ⟨q, rfl, q0, q1⟩ <;> rcases h2 with rfl | ⟨q', rfl, q0', q1'⟩
  · rfl
  · exact absurd h.symm (any q' q0' (by omega))
  · exact absurd h (any q q0 (by omega))
  · rw [dgS_inj q0 (by omega) q0' (by omega) h]
theorem smL_inj {n i n' i' : Int} {f f' : V} (h1 : 1 ≤ n) (h2 : n ≤ 8) (h3 : 0 ≤ i) (h4 : i ≤ n - 1) (h5 : PhOk f n) (k1 : 1 ≤ n') (k2 : n' ≤ 8) (k3 : 0 ≤ i') (k4 : i' ≤ n' - 1) (k5 : PhOk f' n') (h : smL n i f = smL n' i' f') : n = n' ∧ i = i' ∧ f = f' := by
  have e1 := okW_split (ws := smW n i f) (fun z => nomatch z) (smW_ok h1 h2 h3 h4 h5)
  have e2 := okW_split (ws := smW n' i' f') (fun z => nomatch z) (smW_ok k1 k2 k3 k4 k5)
  have h : Txt.join " " (smW n i f) = Txt.join " " (smW n' i' f') := h
  rw [h, e2] at e1
  have e1 : [("sampler" : Str), ("period" : Str), dgS n', ("jitter" : Str), dgS i', ("phase" : Str), phS f'] = [("sampler" : Str), ("period" : Str), dgS n, ("jitter" : Str), dgS i, ("phase" : Str), phS f] := e1
  injection e1 with _ e1
  injection e1 with _ e1
  injection e1 with en e1
  injection e1 with _ e1
  injection e1 with ei e1
  injection e1 with _ e1
  injection e1 with ef _
  exact ⟨(dgS_inj (by omega) (by omega) (by omega) (by omega) en).symm, (dgS_inj (by omega) (by omega) (by omega) (by omega) ei).symm, phS_inj h5 k5 h2 k2 ef.symm⟩
theorem map_inj {α β : Type} {f : α → β} {P : α → Prop} (hf : ∀ a b, P a → P b → f a = f b → a = b) : ∀ {xs ys : List α}, (∀ x ∈ xs, P x) → (∀ x ∈ ys, P x) → xs.map f = ys.map f → xs = ys
  | [], [], _, _, _ => rfl
  | [], _ :: _, _, _, h => nomatch h
  | _ :: _, [], _, _, h => nomatch h
  | x :: xs, y :: ys, h1, h2, h => by
    obtain ⟨e1, e2⟩ := List.cons.inj h
    rw [hf x y (h1 _ List.mem_cons_self) (h2 _ List.mem_cons_self) e1, map_inj hf (fun z hz => h1 z (List.mem_cons_of_mem _ hz)) (fun z hz => h2 z (List.mem_cons_of_mem _ hz)) e2]
theorem pgT_inj {z : Str} {rs rs' : List Rw} {n i n' i' : Int} {f f' : V} (hz : nmB z = true) (hr : ∀ r ∈ rs, RwOk r) (hr' : ∀ r ∈ rs', RwOk r) (h1 : 1 ≤ n) (h2 : n ≤ 8) (h3 : 0 ≤ i) (h4 : i ≤ n - 1) (h5 : PhOk f n) (k1 : 1 ≤ n') (k2 : n' ≤ 8) (k3 : 0 ≤ i') (k4 : i' ≤ n' - 1) (k5 : PhOk f' n')
    (h : pgT z rs n i f = pgT z rs' n' i' f') : rs = rs' ∧ n = n' ∧ i = i' ∧ f = f' := by
  have e1 := pgT_split hz hr h1 h2 h3 h4 h5
  have e2 := pgT_split hz hr' k1 k2 k3 k4 k5
  rw [h, e2] at e1
  obtain ⟨_, e3⟩ := List.cons.inj e1
  obtain ⟨e4, e5⟩ := List.append_inj' e3 (by rw [List.length_singleton, List.length_singleton])
  exact ⟨(map_inj (P := RwOk) (fun a b => plL_inj) hr' hr e4).symm, smL_inj h1 h2 h3 h4 h5 k1 k2 k3 k4 k5 (List.cons.inj e5).1.symm⟩
def fD : V → PyData
  | .int q => .int q
  | _ => .none
def spD (n i : Int) (f : V) : PyData := .list [.int n, .int i, fD f]
theorem spD_dp {H : Hp} {s : Addr} {n i : Int} {f : V} (hf : PhV f) (h : H s = some (.lst [.int n, .int i, f])) : Dp K H (.ref s) (spD n i f) := by
  refine .lst (SqL.of h) (.cons (.int _) (.cons (.int _) (.cons ?_ .nil)))
  rcases hf with rfl | ⟨q, rfl⟩
  · exact .non
  · exact .int _
theorem spD_sh {n i : Int} {f : V} (hf : PhV f) : SeqAt.shaped (spD n i f) = true := by
  rcases hf with rfl | ⟨q, rfl⟩
  · simp [SeqAt.shaped, spD, fD, PyData.canLay0, PyData.canLayAll0, PyData.depth, PyData.depthAll]
  · simp [SeqAt.shaped, spD, fD, PyData.canLay0, PyData.canLayAll0, PyData.depth, PyData.depthAll]
theorem spD_eq {n i n' i' : Int} {f f' : V} (hf : PhV f) (hf' : PhV f') : PyData.eqv (spD n i f) (spD n' i' f') = saB n n' i i' f f' := by
  have hi : ∀ a b : Int, (a == b) = decide (a = b) := fun a b => by
    rw [Bool.eq_iff_iff]
    simp
  rcases hf with rfl | ⟨q, rfl⟩ <;> rcases hf' with rfl | ⟨q', rfl⟩
  · show ((n == n') && ((i == i') && (true && true))) = (decide (n = n') && (decide (i = i') && decide (V.non = V.non)))
    rw [hi, hi, decide_eq_true (p := V.non = V.non) rfl]
    rfl
  · show ((n == n') && ((i == i') && (false && true))) = (decide (n = n') && (decide (i = i') && decide (V.non = V.int q')))
    rw [hi, hi, decide_eq_false (p := V.non = V.int q') (fun z => nomatch z)]
    rfl
  · show ((n == n') && ((i == i') && (false && true))) = (decide (n = n') && (decide (i = i') && decide (V.int q = V.non)))
    rw [hi, hi, decide_eq_false (p := V.int q = V.non) (fun z => nomatch z)]
    rfl
  · show ((n == n') && ((i == i') && ((q == q') && true))) = (decide (n = n') && (decide (i = i') && decide (V.int q = V.int q')))
    rw [hi, hi, hi, int_dec, Bool.and_true]
theorem same_x2 {d : Addr} {H H1 H2 : Hp} (s : Same H H1) (x : SameX d H1 H2) (n : H d = none) : Same H H2 := fun b o h => x b o (ne_of_none h n) (s b o h)
theorem RowsOk.rw {ys : List PgE} (h : RowsOk ys) : ∀ y ∈ ys, RwOk y.2.2 := fun y hy => by
  obtain ⟨k1, k2, k3, k4, k5⟩ := h.kp y hy
  obtain ⟨a1, a2⟩ := h.ns y hy
  refine ⟨k1, k3, k4, k5, fun v hv => ?_, a2, ?_⟩
  · obtain ⟨u, hu, e⟩ := List.mem_map.mp (a1 v hv)
    rw [← e]
    exact (h.kp u hu).1
  · have h1 := nodup_le a2 a1
    have h2 : (zsOf ys).length = ys.length := List.length_map ..
    have := h.l6
    omega
structure Bx (H : Hp) (R s C O P : Addr) (ys : List PgE) (n i : Int) (f : V) (cs : List PgE) (n' i' : Int) (f' : V) : Prop where
  hR : RowsA H R ys
  hs : SpA H s n i f
  hC : RowsA H C cs
  hO : SpA H O n' i' f'
  hP : H P = some (.lst [.ref C, .ref O])
theorem Bx.ext {H H' : Hp} {R s C O P : Addr} {ys : List PgE} {n i : Int} {f : V} {cs : List PgE} {n' i' : Int} {f' : V} (h : Bx H R s C O P ys n i f cs n' i' f') (e : Same H H') : Bx H' R s C O P ys n i f cs n' i' f' := ⟨h.hR.ext e, h.hs.ext e, h.hC.ext e, h.hO.ext e, e _ _ h.hP⟩
theorem PgA.ne {K : PySem.W.Frag} {H : Hp} {g : Addr} {xs : List PgE} {st : Str} {dx tn dP dN b : Addr} (h : PgA K H g xs st dx tn dP dN) (hb : H b = none) : dP ≠ b ∧ dN ≠ b := ⟨ne_of_none h.hP hb, ne_of_none h.hN hb⟩
def spLaw (K : PySem.W.Frag) : Sp := fun vs H Q _ => ∃ (a : Addr) (ns : List Int), vs = [.ref a] ∧ SqL K H a (ns.map V.int) ∧ ns.length ≤ 63 ∧ ∀ H', Q (.bl true) H'
theorem sc_law : FnScope ["_law_script", "_law_draw", "_law_spec_here", "_law_rows_here", "_law_picks", "_law_begin", "_law_other", "_law_program_here", "_law_sampler_here", "_law_text", "_law_pair", "_law_one", "_law_two", "_law_alike", "_law_back"] ["_law_script"] (defScope s_law) := ⟨rfl, rfl, rfl, by decide +kernel, rfl, by decide +kernel, by decide +kernel⟩
-- slots: 0 _law_script, 1 _law_draw, 2 _law_spec_here, 3 _law_rows_here, 4 _law_picks, 5 _law_begin, 6 _law_other, 7 _law_program_here, 8 _law_sampler_here, 9 _law_text, 10 _law_pair, 11 _law_one, 12 _law_two, 13 _law_alike, 14 _law_back
theorem ok_law {fd : FuncData} (F : FnD K ("law", none) "law" "law" s_law fd) (T : QTxt K mg) (M : GMeth K) (N : SMeth K) (O_law_cell : OkF P w K mg base CX0 1 "_law_cell" ["_law_script", "_law_k"] (Vf.spCell K)) (O_law_take : OkF P w K mg base CX0 1 "_law_take" ["_law_draw", "_law_size"] spTake) (O_law_spec : OkF P w K mg base CX0 2 "_law_spec" ["_law_draw", "_law_longest"] spSpec)
    (O_law_rows : OkF P w K mg base CX0 3 "_law_rows" ["_law_draw", "_law_words", "_law_many", "_law_longest"] spRows) (O_law_changed : OkF P w K mg base CX0 2 "_law_changed" ["_law_draw", "_law_rows_here", "_law_spec_here"] spChg) (O_law_program : OkF P w K mg base CX0 7 "_law_program" ["_law_rows_here", "_law_begin"] (spPrL K)) (O_law_sampler : OkF P w K mg base CX0 6 "_law_sampler" ["_law_spec_here"] (spSmp K))
    (O_law_same : OkF P w K mg base CX0 6 "_law_same" ["_law_program_here", "_law_rows_here", "_law_begin"] (spSam K)) (O_write : OkF P w K mg base (L2.CX P w) 6 "write" ["program", "sampler"] (spWt K)) (O_read : OkF P w K mg base (L2.CX P w) 8 "read" ["text"] (spRdP K))
    (O_eq : OkM P w K mg base CX0 4 "Program" "__eq__" ["self", "other"] (spPgE K)) (O_seq : OkM P w K mg base CX0 1 "Sampler" "__eq__" ["self", "other"] (spSaE (CS K))) : FnOk P w K mg base CX0 10 (He.ga K "law") fd ["_law_script"] (spLaw K) := by
  refine F.ok sc_law (fun vs H Q E h => ?_) fun cdv A outer s H vs Q E hr h => ?_
  · obtain ⟨a, ns, rfl, _⟩ := h
    rfl
  · obtain ⟨a0, ns, rfl, hS, hlen, k⟩ := h
    refine ⟨_, PSs.nox (pss_cons (ps_set (i := 1) sc_law.nd rfl (Or.inl rfl) (pe_lst (pa_cons (c_fn O_law_cell hr (by decide) T.g_law_cell pass0 (pa_cons (pv 0) (pa_cons pe_int pa_nil))) pa_nil)))
  (pss_cons (ps_set (i := 2) sc_law.nd rfl (Or.inl rfl) (c_fn O_law_spec hr (by decide) T.g_law_spec pass0 (pa_cons (pv 1) (pa_cons pe_int pa_nil))))
  (pss_cons (ps_set (i := 3) sc_law.nd rfl (Or.inl rfl) (c_fn O_law_rows hr (by decide) T.g_law_rows pass0 (pa_cons (pv 1) (pa_cons (pe_lst (pa_cons (c_fn O_law_cell hr (by decide) T.g_law_cell pass0 (pa_cons (pv 0) (pa_cons pe_int pa_nil))) pa_nil)) (pa_cons pe_int (pa_cons pe_int pa_nil))))))
  (pss_cons (ps_set (i := 4) sc_law.nd rfl (Or.inl rfl) (pe_lst (pa_cons (c_fn O_law_cell hr (by decide) T.g_law_cell pass0 (pa_cons (pv 0) (pa_cons pe_int pa_nil))) pa_nil)))
  (pss_cons (ps_set (i := 5) sc_law.nd rfl (Or.inl rfl) (pe_ix ix_list (pe_ix ix_list (pv 3) (c_fn O_law_take hr (by decide) T.g_law_take pass0 (pa_cons (pv 4) (pa_cons (pe_callB (id := "len") call_len_seq (by rfl) T.z_len (by decide +kernel) (pa_cons (pv 3) pa_nil)) pa_nil))) (fun _ _ => rfl)) pe_int (fun _ _ => rfl)))
  (pss_cons (ps_set (i := 6) sc_law.nd rfl (Or.inl rfl) (c_fn O_law_changed hr (by decide) T.g_law_changed pass0 (pa_cons (pv 4) (pa_cons (pv 3) (pa_cons (pv 2) pa_nil)))))
  (pss_cons (ps_set (i := 7) sc_law.nd rfl (Or.inl rfl) (c_fn O_law_program hr (by decide) T.g_law_program pass0 (pa_cons (pv 3) (pa_cons (pv 5) pa_nil))))
  (pss_cons (ps_set (i := 8) sc_law.nd rfl (Or.inl rfl) (c_fn O_law_sampler hr (by decide) T.g_law_sampler pass0 (pa_cons (pv 2) pa_nil)))
  (pss_cons (ps_set (i := 9) sc_law.nd rfl (Or.inl rfl) (c_fn O_write hr (by decide) T.g_write passL (pa_cons (pv 7) (pa_cons (pv 8) pa_nil))))
  (pss_cons (ps_set (i := 10) sc_law.nd rfl (Or.inl rfl) (c_fn O_read hr (by decide) T.g_read passL (pa_cons (pv 9) pa_nil)))
  (pss_cons (ps_if (PW.pt (pw_orB (pt_not (pt_val (pe_callB (id := "isinstance") call_isi (by rfl) T.z_isinstance (by decide +kernel) (pa_cons (pv 10) (pa_cons (pe_ty (n := "tuple") T.z_tuple (by decide +kernel)) pa_nil))))) (pw_orB (pt_cmpR op_ne (pe_callB (id := "len") call_len_seq (by rfl) T.z_len (by decide +kernel) (pa_cons (pv 10) pa_nil)) pe_int (nomark _)) (pw_or1 (pt_not (pt_val (pe_callB (id := "isinstance") call_isi (by rfl) T.z_isinstance (by decide +kernel) (pa_cons (pe_ix ix_tup (pv 10) pe_int (fun _ _ => rfl)) (pa_cons (pe_cl T.g_Program) pa_nil))))))))) (pss_one (ps_ret pe_bl))
  pss_nil)
  (pss_cons (ps_if (PW.pt (pw_orB (pt_not (pt_val (pe_callB (id := "isinstance") call_isi (by rfl) T.z_isinstance (by decide +kernel) (pa_cons (pe_ix ix_tup (pv 10) pe_int (fun _ _ => rfl)) (pa_cons (pe_cl T.g_Sampler) pa_nil))))) (pw_orB (pt_not (pt_cmpR (cmp_oo rfl rfl N.s_eq O_seq hr (by decide) pass0) (pe_ix ix_tup (pv 10) pe_int (fun _ _ => rfl)) (pv 8) (nomark _))) (pw_orB (pt_not (pt_cmpR (cmp_oo rfl rfl M.m_eq O_eq hr (by decide) pass0) (pe_ix ix_tup (pv 10) pe_int (fun _ _ => rfl)) (pv 7) (nomark _))) (pw_or1 (pt_cmpR (cmp_neO rfl M.m_eq M.m_ne T.pm O_eq hr (by decide)) (pv 7) (pe_ix ix_tup (pv 10) pe_int (fun _ _ => rfl)) (nomark _))))))) (pss_one (ps_ret pe_bl))
  pss_nil)
  (pss_cons (ps_if (PW.pt (pw_orB (pt_not (pt_val (c_fn O_law_same hr (by decide) T.g_law_same pass0 (pa_cons (pe_ix ix_tup (pv 10) pe_int (fun _ _ => rfl)) (pa_cons (pv 3) (pa_cons (pv 5) pa_nil)))))) (pw_or1 (pt_cmpR (op_neD hr.units) (pe_lst (pa_cons (pe_fld (pe_ix ix_tup (pv 10) pe_int (fun _ _ => rfl)) rfl) (pa_cons (pe_fld (pe_ix ix_tup (pv 10) pe_int (fun _ _ => rfl)) rfl) (pa_cons (pe_fld (pe_ix ix_tup (pv 10) pe_int (fun _ _ => rfl)) rfl) pa_nil)))) (pv 2) (nomark _))))) (pss_one (ps_ret pe_bl))
  pss_nil)
  (pss_cons (ps_if (PW.pt (pw_orB (pt_cmpR op_ne (c_fn O_write hr (by decide) T.g_write passL (pa_cons (pe_ix ix_tup (pv 10) pe_int (fun _ _ => rfl)) (pa_cons (pe_ix ix_tup (pv 10) pe_int (fun _ _ => rfl)) pa_nil))) (pv 9) (nomark _)) (pw_or1 (pt_not (pt_val (pe_callB (id := "isinstance") call_isi (by rfl) T.z_isinstance (by decide +kernel) (pa_cons (pv 9) (pa_cons (pe_ty (n := "str") T.z_str (by decide +kernel)) pa_nil)))))))) (pss_one (ps_ret pe_bl))
  pss_nil)
  (pss_cons (ps_set (i := 11) sc_law.nd rfl (Or.inl rfl) (c_fn O_law_program hr (by decide) T.g_law_program pass0 (pa_cons (pe_ix ix_list (pv 6) pe_int (fun _ _ => rfl)) (pa_cons (pv 5) pa_nil))))
  (pss_cons (ps_set (i := 12) sc_law.nd rfl (Or.inl rfl) (c_fn O_law_sampler hr (by decide) T.g_law_sampler pass0 (pa_cons (pe_ix ix_list (pv 6) pe_int (fun _ _ => rfl)) pa_nil)))
  (pss_cons (ps_set (i := 13) sc_law.nd rfl (Or.inl rfl) (pe_andB (pe_cmpR (op_eqD hr.units) (pv 3) (pe_ix ix_list (pv 6) pe_int (fun _ _ => rfl)) (nomark _)) (pe_one (pe_cmpR (op_eqD hr.units) (pv 2) (pe_ix ix_list (pv 6) pe_int (fun _ _ => rfl)) (nomark _)))))
  (pss_cons (ps_if (PW.pt (pw_orB (pt_cmpR op_ne (pe_cmpR op_eq (c_fn O_write hr (by decide) T.g_write passL (pa_cons (pv 11) (pa_cons (pv 12) pa_nil))) (pv 9) (nomark _)) (pv 13) (nomark _)) (pw_or1 (pt_cmpR op_ne (pe_andB (pe_cmpR (cmp_oo rfl rfl M.m_eq O_eq hr (by decide) pass0) (pv 7) (pv 11) (nomark _)) (pe_one (pe_cmpR (cmp_oo rfl rfl N.s_eq O_seq hr (by decide) pass0) (pv 8) (pv 12) (nomark _)))) (pv 13) (nomark _))))) (pss_one (ps_ret pe_bl))
  pss_nil)
  (pss_cons (ps_set (i := 14) sc_law.nd rfl (Or.inl rfl) (c_fn O_read hr (by decide) T.g_read passL (pa_cons (c_fn O_write hr (by decide) T.g_write passL (pa_cons (pv 11) (pa_cons (pv 12) pa_nil))) pa_nil)))
  (pss_one (ps_ret (pe_andB (pe_cmpR (cmp_oo rfl rfl M.m_eq O_eq hr (by decide) pass0) (pe_ix ix_tup (pv 14) pe_int (fun _ _ => rfl)) (pv 11) (nomark _)) (pe_andB (pe_cmpR (cmp_oo rfl rfl N.s_eq O_seq hr (by decide) pass0) (pe_ix ix_tup (pv 14) pe_int (fun _ _ => rfl)) (pv 12) (nomark _)) (pe_one (pe_cmpR op_eq (pe_cmpR (cmp_oo rfl rfl M.m_eq O_eq hr (by decide) pass0) (pe_ix ix_tup (pv 14) pe_int (fun _ _ => rfl)) (pe_ix ix_tup (pv 10) pe_int (fun _ _ => rfl)) (nomark _)) (pe_cmpR (op_eqD hr.units) (pv 3) (pe_ix ix_list (pv 6) pe_int (fun _ _ => rfl)) (nomark _)) (nomark _)))))))))))))))))))))))))), ?_⟩
    refine ⟨_, rfl, a0, ns, 0, rfl, hS, by decide, fun n0 => ⟨(by show 1 ≤ sizeLine; decide), fun d nd => ?_⟩⟩
    have s1 := same_new (o := .lst [.int n0]) nd
    have hd1 := upd_same (H := H) (a := d) (o := .lst [.int n0])
    generalize upd H d (.lst [.int n0]) = H1 at s1 hd1 ⊢
    refine ⟨_, rfl, d, n0, 8, rfl, hd1, by decide, by decide, fun H4 s m3 n i f x4 hd4 nS0 hs hn8 => ?_⟩
    have s4 : Same H H4 := same_x2 s1 x4 nd
    clear x4 hd1 nS0 s1 H1
    refine ⟨_, rfl, _, rfl, a0, ns, 1, rfl, s4.seq hS, by decide, fun n1 => ⟨(by show 1 ≤ sizeLine; decide), fun e nE => ?_⟩⟩
    have nde : d ≠ e := ne_of_none hd4 nE
    have s45 := same_new (o := .lst [.int n1]) nE
    have he5 := upd_same (H := H4) (a := e) (o := .lst [.int n1])
    have hd5 := s45 _ _ hd4
    have hs5 := hs.ext s45
    have s5 := s4.trans s45
    have nE0 : H e = none := none_of s4 nE
    generalize upd H4 e (.lst [.int n1]) = H5 at s45 he5 hd5 hs5 s5 ⊢
    clear s4 hd4 s45 nE hs H4
    refine ⟨d, e, m3, n1, 6, 6, rfl, hd5, he5, nde, by decide, by decide, by decide, by decide, fun H6 R ys x6 hx6 hR hok hnd hR0 => ?_⟩
    have hs6 : SpA H6 s n i f := ⟨x6 _ _ (ne_of hs5.hs hd5 (by intro z; cases z)) (ne_of hs5.hs he5 (by intro z; cases z)) hs5.hs, hs5.n1, hs5.n8, hs5.i0, hs5.i1, hs5.hf⟩
    have s6 : Same H H6 := fun b o h => x6 b o (ne_of_none h nd) (ne_of_none h nE0) (s5 _ _ h)
    clear x6 hs5 s5 he5 hd5 nde nE0 hR0 hnd hx6 H5 e nd
    have hl1 := hok.l1
    have hl6 := hok.l6
    have p1 := hs6.n1
    have p8 := hs6.n8
    have pi0 := hs6.i0
    have pi1 := hs6.i1
    have pf := hs6.hf
    refine ⟨_, rfl, a0, ns, 2, rfl, s6.seq hS, by decide, fun n2 => ⟨(by show 1 ≤ sizeLine; decide), fun pk npk => ?_⟩⟩
    have s67 := same_new (o := .lst [.int n2]) npk
    have hk7 := upd_same (H := H6) (a := pk) (o := .lst [.int n2])
    have hR7 := hR.ext s67
    have hs7 := hs6.ext s67
    have npk0 := none_of s6 npk
    have s7 := s6.trans s67
    generalize upd H6 pk (.lst [.int n2]) = H7 at hk7 hR7 hs7 s7 ⊢
    clear s67 hR hs6 s6 npk H6
    have elen : (((ys.map fun y => V.ref y.1).length : Nat) : Int) = (ys.length : Int) := by rw [List.length_map]
    refine ⟨_, rfl, _, rfl, _, rfl, R, _, rfl, .inl (SqL.of hR7.hR), ?_⟩
    rw [elen]
    refine ⟨pk, n2, (ys.length : Int), rfl, hk7, by omega, by omega, fun r m8 r0 r1 => ?_⟩
    have s8 : Same H (upd H7 pk (.lst [.int m8])) := same_x2 s7 SameX.upd npk0
    have hR8 := hR7.extX hk7 (SameX.upd (o := .lst [.int m8]))
    have hs8 : SpA (upd H7 pk (.lst [.int m8])) s n i f := ⟨by rw [upd_ne (ne_of hs7.hs hk7 (by intro z; cases z))]; exact hs7.hs, p1, p8, pi0, pi1, pf⟩
    have hk8 := upd_same (H := H7) (a := pk) (o := .lst [.int m8])
    generalize upd H7 pk (.lst [.int m8]) = H8 at s8 hR8 hs8 hk8 ⊢
    clear s7 hR7 hs7 hk7 H7
    obtain ⟨yj, hyj⟩ : ∃ yj, ys[r.toNat]? = some yj := ⟨_, List.getElem?_eq_getElem (by omega)⟩
    have hyr := (hR8.row yj (List.mem_of_getElem? hyj)).1
    refine ⟨R, _, r, .ref yj.1, rfl, rfl, SqL.of hR8.hR, atI_int r0 (by rw [List.getElem?_map, hyj]; rfl), yj.1, _, 0, .str yj.2.2.z, rfl, rfl, SqL.of hyr, atI0, ?_⟩
    have hz : yj.2.2.z ∈ zsOf ys := List.mem_map_of_mem (List.mem_of_getElem? hyj)
    have hnz := (hok.kp yj (List.mem_of_getElem? hyj)).1
    generalize yj.2.2.z = z at hz hnz ⊢
    clear hyr hyj yj r0 r1 r elen
    refine ⟨_, rfl, _, rfl, _, rfl, pk, R, s, m8, n, i, f, ys, rfl, hk8, hR8, hok, hs8, fun H9 PA C O cs n' i' f' x9 hP9 hC9 hcok hczs hO9 => ?_⟩
    have s9 : Same H H9 := same_x2 s8 x9 npk0
    have bx9 : Bx H9 R s C O PA ys n i f cs n' i' f' := ⟨hR8.extX hk8 x9, ⟨x9 _ _ (ne_of hs8.hs hk8 (by intro z; cases z)) hs8.hs, p1, p8, pi0, pi1, pf⟩, hC9, hO9, hP9⟩
    clear x9 s8 hR8 hs8 hk8 hP9 hC9 hO9 npk0 H8
    have hrw := hok.rw
    have hcrw := hcok.rw
    have q1 := bx9.hO.n1
    have q8 := bx9.hO.n8
    have qi0 := bx9.hO.i0
    have qi1 := bx9.hO.i1
    have qf := bx9.hO.hf
    have hzc : z ∈ zsOf cs := by rw [hczs]; exact hz
    have rwB : ∀ {xs us : List PgE}, rwOf xs = rwOf us → (∀ y ∈ us, RwOk y.2.2) → ∀ x ∈ xs, RwOk x.2.2 := fun {xs us} h hu x hx => by
      have : x.2.2 ∈ rwOf us := by
        rw [← h]
        exact List.mem_map_of_mem hx
      obtain ⟨y, hy, e⟩ := List.mem_map.mp this
      rw [← e]
      exact hu y hy
    have zsB : ∀ {xs us : List PgE}, rwOf xs = rwOf us → zsOf xs = zsOf us := fun {xs us} h => by
      have := congrArg (List.map fun r : Rw => r.z) h
      unfold rwOf at this
      rw [List.map_map, List.map_map] at this
      exact this
    -- program, sampler, text
    refine ⟨_, rfl, _, rfl, R, ys, z, rfl, bx9.hR, hok, hz, fun H10 g xs dx tn dP dN s10 hg hB nPx nNx => ?_⟩
    have bx10 := bx9.ext s10
    have eB := hB.rw
    refine ⟨_, rfl, s, n, i, f, rfl, bx10.hs, fun H11 p s11 hp => ?_⟩
    have bx11 := bx10.ext s11
    have hg11 := hg.ext s11
    have s011 := s9.trans (s10.trans s11)
    clear bx9 bx10 hg s10 s11 s9 hB nPx nNx H9 H10
    refine ⟨_, rfl, _, rfl, g, p, xs, z, dx, tn, dP, dN, n, i, f, rfl, hg11, by rw [zsB eB]; exact hz, rwB eB hrw, hp, p1, p8, pi0, pi1, pf, fun H12 s12 => ?_⟩
    rw [show xs.map (·.2.2) = rwOf ys from eB]
    have bx12 := bx11.ext s12
    have hg12 := hg11.ext s12
    have hp12 := hp.ext s12
    have rd : ∀ {us : List PgE} {nn ii : Int} {ff : V} {Q' : VK} {E' : XK} {H' : Hp}, RowsOk us → z ∈ zsOf us → 1 ≤ nn → nn ≤ 8 → 0 ≤ ii → ii ≤ nn - 1 → PhOk ff nn → (∀ H2 t g p xs dx tn dP dN, Same H' H2 → H2 t = some (.tup [.ref g, .ref p]) → PgA K H2 g xs z dx tn dP dN → rwOf xs = rwOf us → SaA (CS K) H2 p nn ii ff → H' dP = none → H' dN = none → Q' (.ref t) H2) → spRdP K [.str (pgT z (rwOf us) nn ii ff)] H' Q' E' := fun {us nn ii ff Q' E' H'} uok uz a1 a2 a3 a4 a5 kk => by
      have ezm : (rwOf us).map (·.z) = zsOf us := by
        unfold rwOf
        rw [List.map_map]
        rfl
      refine ⟨z, rwOf us, nn, ii, ff, rfl, hnz, fun r hr => ?_, by rw [ezm]; exact uok.nd, by unfold rwOf; rw [List.length_map]; exact uok.l1, by unfold rwOf; rw [List.length_map]; exact uok.l6, by rw [ezm]; exact uz, fun r hr v hv => ?_, a1, a2, a3, a4, a5, fun H2 t g p xs dx tn dP dN c1 c2 c3 c4 c5 c6 c7 => kk H2 t g p xs dx tn dP dN c1 c2 c3 c4 c5 c6 c7⟩
      · obtain ⟨y, hy, rfl⟩ := List.mem_map.mp hr
        exact uok.rw y hy
      · obtain ⟨y, hy, rfl⟩ := List.mem_map.mp hr
        rw [ezm]
        exact (uok.ns y hy).1 v hv
    refine ⟨_, rfl, ?_⟩
    unfold tNil
    dsimp only [List.nil_append, List.cons_append, List.append_nil]
    refine rd hok hz p1 p8 pi0 pi1 pf fun H13 t g2 p2 xs2 dx2 tn2 dP2 dN2 s13 ht hg2 eB2 hp2 nP2 nN2 => ?_
    have nP := (hg12.ne nP2).1
    have nN := (hg12.ne nN2).2
    have bx := bx12.ext s13
    have hg := hg12.ext s13
    replace hp := hp12.ext s13
    have s013 := s011.trans (s12.trans s13)
    clear bx11 bx12 hg11 hg12 hp12 s011 s12 s13 nP2 nN2 H11 H12
    obtain ⟨TX, hTX⟩ : ∃ TX, pgT z (rwOf ys) n i f = TX := ⟨_, rfl⟩
    rw [hTX]
    -- the pair's kinds
    refine ⟨_, rfl, .ref t, .ty "tuple", .type "tuple", .type "tuple", true, rfl, .ty _, .base (.tup ht), kit_ty (by decide +kernel), true, rfl, false, (· = H13), fun _ => ?_, (fun c => Bool.noConfusion c), fun H14 e => ?_⟩
    · refine ⟨_, rfl, t, _, rfl, .inr (SqT.of ht), rfl, _, rfl, false, (· = H13), fun _ => ?_, (fun c => Bool.noConfusion c), fun H14 e => ⟨rfl, e⟩⟩
      exact ⟨_, rfl, t, _, 0, .ref g2, rfl, rfl, SqT.of ht, atI0, .ref g2, .ref (CG K), .ref (CG K), .ref (CG K), true, rfl, .own _, .base (.ins hg2.hg T.c_Program T.pa T.hn T.ht T.pm), T.pk, true, rfl, rfl, rfl⟩
    subst e
    refine iteF ?_
    -- equal to the ones written
    have pv := pf.v
    have sself : saB n n i i f f = true := by
      unfold saB
      simp
    have gself : pgB xs2 xs z z = true := by
      rw [pg_alike, eB, eB2]
      simp
    have gself2 : pgB xs xs2 z z = true := by
      rw [pg_alike, eB, eB2]
      simp
    obtain ⟨dp2, hp2i⟩ := id hp2
    obtain ⟨dp, hpi⟩ := id hp
    refine ⟨_, rfl, t, _, 1, .ref p2, rfl, rfl, SqT.of ht, atI1, .ref p2, .ref (CS K), .ref (CS K), .ref (CS K), true, rfl, .own _, .base (.ins hp2i T.c_Sampler T.sa T.hn T.ht T.sm), T.sk, true, rfl, false, fun H' => Same H14 H', fun _ => ?_, (fun c => Bool.noConfusion c), fun H15 s15 => ?_⟩
    · refine ⟨_, rfl, t, _, 1, .ref p2, rfl, rfl, SqT.of ht, atI1, _, rfl, p2, p, dp2, dp, _, _, rfl, rfl, hp2i, hpi, p2, p, n, n, i, i, f, f, rfl, hp2, hp, pv, pv, ?_⟩
      rw [sself]
      refine ⟨_, rfl, false, fun H' => Same H14 H', fun _ => ?_, (fun c => Bool.noConfusion c), fun H15 e => ⟨rfl, e⟩⟩
      refine ⟨_, rfl, t, _, 0, .ref g2, rfl, rfl, SqT.of ht, atI0, _, rfl, g2, g, dx2, dx, _, _, rfl, rfl, hg2.hg, hg.hg, g2, g, xs2, xs, z, z, dx2, tn2, dP2, dN2, dx, tn, dP, dN, rfl, hg2, hg, nP.symm, nN.symm, fun H16 s16 => ?_⟩
      rw [gself]
      refine ⟨_, rfl, false, fun H' => Same H14 H', fun _ => ?_, (fun c => Bool.noConfusion c), fun H15 e => ⟨rfl, e⟩⟩
      have hg16 := hg.ext s16
      have hg216 := hg2.ext s16
      have ht16 := s16 _ _ ht
      refine ⟨_, rfl, _, rfl, t, _, 0, .ref g2, rfl, rfl, SqT.of ht16, atI0, g, g2, dx, dx2, _, _, rfl, rfl, hg16.hg, hg216.hg, g, g2, xs, xs2, z, z, dx, tn, dP, dN, dx2, tn2, dP2, dN2, rfl, hg16, hg216, nP, nN, fun H17 s17 => ⟨_, rfl, ?_⟩⟩
      rw [gself2]
      exact ⟨_, rfl, rfl, s16.trans s17⟩
    refine iteF ?_
    replace bx := bx.ext s15
    replace hg := hg.ext s15
    replace hg2 := hg2.ext s15
    replace hp := hp.ext s15
    replace hp2 := hp2.ext s15
    replace ht := s15 _ _ ht
    clear hp2i hpi dp dp2 gself gself2 s15 s013 H14
    show tSeq _ _ _ [some (.ref a0), some (.ref d), some (.ref s), some (.ref R), some (.ref pk), some (.str z), some (.ref PA), some (.ref g), some (.ref p), some (.str TX), some (.ref t), none, none, none, none] H15
    have ceq : decide (V.str TX = .str TX) = true := decide_eq_true rfl
    have zx2 : z ∈ zsOf xs2 := by rw [zsB eB2]; exact hz
    -- the parts
    refine ⟨_, rfl, t, _, 0, .ref g2, rfl, rfl, SqT.of ht, atI0, _, rfl, _, rfl, g2, R, xs2, ys, z, dx2, tn2, dP2, dN2, rfl, hg2, bx.hR, hok, eB2, fun H16 s16 => ?_⟩
    replace bx := bx.ext s16
    replace hg := hg.ext s16
    replace hg2 := hg2.ext s16
    replace hp := hp.ext s16
    replace hp2 := hp2.ext s16
    replace ht := s16 _ _ ht
    clear s16 H15
    obtain ⟨dp2, hp2i⟩ := id hp2
    refine ⟨_, rfl, false, fun H' => Same H16 H', fun _ => ?_, (fun c => Bool.noConfusion c), fun H17 s17 => ?_⟩
    · refine ⟨_, rfl, t, _, 1, .ref p2, rfl, rfl, SqT.of ht, atI1, p2, _, dp2, _, _, rfl, hp2i, T.c_Sampler, T.sP, saf_period .., _, rfl, t, _, 1, .ref p2, rfl, rfl, SqT.of ht, atI1, p2, _, dp2, _, _, rfl, hp2i, T.c_Sampler, T.sJ, saf_jitter .., _, rfl, t, _, 1, .ref p2, rfl, rfl, SqT.of ht, atI1, p2, _, dp2, _, _, rfl, hp2i, T.c_Sampler, T.sF, saf_phase .., (by show 3 ≤ sizeLine; decide), fun a na => ?_⟩
      have sa := same_new (o := .lst [.int n, .int i, f]) na
      refine ⟨_, rfl, spD n i f, spD n i f, spD_dp pv upd_same, spD_dp pv (sa _ _ bx.hs.hs), spD_sh pv, spD_sh pv, ?_⟩
      rw [SeqAt.eqv_refl _ (SeqAt.canLay_of_shaped (spD_sh pv))]
      exact ⟨_, rfl, rfl, sa⟩
    refine iteF ?_
    replace bx := bx.ext s17
    replace hg := hg.ext s17
    replace hg2 := hg2.ext s17
    replace hp := hp.ext s17
    replace hp2 := hp2.ext s17
    replace ht := s17 _ _ ht
    clear hp2i dp2 s17 H16
    -- the text again
    refine ⟨_, rfl, t, _, 0, .ref g2, rfl, rfl, SqT.of ht, atI0, _, rfl, t, _, 1, .ref p2, rfl, rfl, SqT.of ht, atI1, g2, p2, xs2, z, dx2, tn2, dP2, dN2, n, i, f, rfl, hg2, zx2, rwB eB2 hrw, hp2, p1, p8, pi0, pi1, pf, fun H18 s18 => ?_⟩
    rw [show xs2.map (·.2.2) = rwOf ys from eB2, hTX]
    replace bx := bx.ext s18
    replace hg := hg.ext s18
    replace hg2 := hg2.ext s18
    replace hp := hp.ext s18
    replace hp2 := hp2.ext s18
    replace ht := s18 _ _ ht
    clear s18 H17
    refine ⟨_, rfl, rfl, false, by rw [ceq]; rfl, false, (· = H18), fun _ => ?_, (fun c => Bool.noConfusion c), fun H19 e => ?_⟩
    · exact ⟨_, rfl, .str TX, .ty "str", .type "str", .type "str", true, rfl, .ty _, .base (.str _), kit_ty (by decide +kernel), true, rfl, rfl, rfl⟩
    subst e
    refine iteF ?_
    -- the second pair
    refine ⟨_, rfl, PA, _, 0, .ref C, rfl, rfl, SqL.of bx.hP, atI0, _, rfl, C, cs, z, rfl, bx.hC, hcok, hzc, fun H20 g3 xs3 dx3 tn3 dP3 dN3 s20 hg3 hB3 nP3 nN3 => ?_⟩
    have eB3 := hB3.rw
    have mP := (hg.ne nP3).1
    have mN := (hg.ne nN3).2
    replace bx := bx.ext s20
    replace hg := hg.ext s20
    replace hg2 := hg2.ext s20
    replace hp := hp.ext s20
    replace hp2 := hp2.ext s20
    replace ht := s20 _ _ ht
    clear s20 nP3 nN3 hB3 H19
    refine ⟨_, rfl, PA, _, 1, .ref O, rfl, rfl, SqL.of bx.hP, atI1, O, n', i', f', rfl, bx.hO, fun H21 p3 s21 hp3 => ?_⟩
    replace bx := bx.ext s21
    replace hg := hg.ext s21
    replace hg2 := hg2.ext s21
    replace hg3 := hg3.ext s21
    replace hp := hp.ext s21
    replace hp2 := hp2.ext s21
    replace ht := s21 _ _ ht
    clear s21 H20
    have qv := qf.v
    obtain ⟨al1, hal1⟩ : ∃ b, decide (rwOf ys = rwOf cs) = b := ⟨_, rfl⟩
    obtain ⟨al2, hal2⟩ : ∃ b, saB n n' i i' f f' = b := ⟨_, rfl⟩
    have hrr : PyData.eqv (rowsD (rwOf ys)) (rowsD (rwOf cs)) = al1 := (rowsD_eq _ _).trans hal1
    refine ⟨_, rfl, _, rfl, PA, _, 0, .ref C, rfl, rfl, SqL.of bx.hP, atI0, rowsD (rwOf ys), rowsD (rwOf cs), rows_dp bx.hR, rows_dp bx.hC, rowsD_sh hok, rowsD_sh hcok, al1, al2, (· = H21), congrArg V.bl hrr, fun _ => ?_, fun _ => rfl, fun H22 e => ?_⟩
    · exact ⟨_, rfl, _, rfl, PA, _, 1, .ref O, rfl, rfl, SqL.of bx.hP, atI1, spD n i f, spD n' i' f', spD_dp pv bx.hs.hs, spD_dp qv bx.hO.hs, spD_sh pv, spD_sh qv, congrArg V.bl ((spD_eq pv qv).trans hal2), rfl⟩
    subst e
    have rw1 : ∀ r ∈ rwOf ys, RwOk r := fun r hr => by
      obtain ⟨y, hy, rfl⟩ := List.mem_map.mp hr
      exact hrw y hy
    have rw2 : ∀ r ∈ rwOf cs, RwOk r := fun r hr => by
      obtain ⟨y, hy, rfl⟩ := List.mem_map.mp hr
      exact hcrw y hy
    have hkey : decide (V.str (pgT z (rwOf cs) n' i' f') = V.str TX) = (al1 && al2) := by
      rw [← hal1, ← hal2, ← hTX, Bool.eq_iff_iff]
      unfold saB
      rw [decide_eq_true_eq, Bool.and_eq_true, Bool.and_eq_true, Bool.and_eq_true, decide_eq_true_eq, decide_eq_true_eq, decide_eq_true_eq, decide_eq_true_eq]
      constructor
      · intro e
        obtain ⟨e1, e2, e3, e4⟩ := pgT_inj hnz rw2 rw1 q1 q8 qi0 qi1 qf p1 p8 pi0 pi1 pf (V.str.inj e)
        exact ⟨e1.symm, e2.symm, e3.symm, e4.symm⟩
      · rintro ⟨e1, e2, e3, e4⟩
        rw [e1, e2, e3, e4]
    have g13 : pgB xs xs3 z z = al1 := by
      rw [pg_alike, eB, eB3, hal1, decide_eq_true (p := z = z) rfl, Bool.and_true]
    have zx3 : z ∈ zsOf xs3 := by rw [zsB eB3]; exact hzc
    have bne : ∀ b : Bool, (!decide (V.bl b = V.bl b)) = false := fun b => by rw [decide_eq_true rfl]; rfl
    refine ⟨_, rfl, _, rfl, g3, p3, xs3, z, dx3, tn3, dP3, dN3, n', i', f', rfl, hg3, zx3, rwB eB3 hcrw, hp3, q1, q8, qi0, qi1, qf, fun H23 s23 => ?_⟩
    rw [show xs3.map (·.2.2) = rwOf cs from eB3]
    replace bx := bx.ext s23
    replace hg := hg.ext s23
    replace hg2 := hg2.ext s23
    replace hg3 := hg3.ext s23
    replace hp := hp.ext s23
    replace hp2 := hp2.ext s23
    replace hp3 := hp3.ext s23
    replace ht := s23 _ _ ht
    clear s23 H22
    obtain ⟨dpa, hpa⟩ := id hp
    obtain ⟨dpc, hpc⟩ := id hp3
    refine ⟨_, rfl, rfl, ?_⟩
    rw [hkey]
    refine ⟨_, rfl, rfl, false, congrArg V.bl (bne _), false, fun H' => Same H23 H', fun _ => ?_, (fun c => Bool.noConfusion c), fun H24 s24 => ?_⟩
    · refine ⟨_, rfl, _, rfl, g, g3, dx, dx3, _, _, rfl, rfl, hg.hg, hg3.hg, g, g3, xs, xs3, z, z, dx, tn, dP, dN, dx3, tn3, dP3, dN3, rfl, hg, hg3, mP, mN, fun H24 s24 => ?_⟩
      refine ⟨al1, al2, (· = H24), congrArg V.bl g13, fun _ => ⟨_, rfl, _, rfl, p, p3, dpa, dpc, _, _, rfl, rfl, s24 _ _ hpa, s24 _ _ hpc, p, p3, n, n', i, i', f, f', rfl, hp.ext s24, hp3.ext s24, pv, qv, congrArg V.bl hal2, rfl⟩, fun _ => rfl, fun H25 e => ?_⟩
      subst e
      exact ⟨_, rfl, rfl, false, congrArg V.bl (bne _), rfl, s24⟩
    refine iteF ?_
    replace bx := bx.ext s24
    replace hg := hg.ext s24
    replace hg2 := hg2.ext s24
    replace hg3 := hg3.ext s24
    replace hp := hp.ext s24
    replace hp2 := hp2.ext s24
    replace hp3 := hp3.ext s24
    replace ht := s24 _ _ ht
    clear s24 hpa hpc dpa dpc H23
    -- read back
    show tSeq _ _ _ [some (.ref a0), some (.ref d), some (.ref s), some (.ref R), some (.ref pk), some (.str z), some (.ref PA), some (.ref g), some (.ref p), some (.str TX), some (.ref t), some (.ref g3), some (.ref p3), some (.bl (al1 && al2)), none] H24
    refine ⟨_, rfl, _, rfl, g3, p3, xs3, z, dx3, tn3, dP3, dN3, n', i', f', rfl, hg3, zx3, rwB eB3 hcrw, hp3, q1, q8, qi0, qi1, qf, fun H25 s25 => ?_⟩
    rw [show xs3.map (·.2.2) = rwOf cs from eB3]
    replace bx := bx.ext s25
    replace hg2 := hg2.ext s25
    replace hg3 := hg3.ext s25
    replace hp3 := hp3.ext s25
    replace ht := s25 _ _ ht
    clear s25 hg hp hp2 H24
    refine rd hcok hzc q1 q8 qi0 qi1 qf fun H26 t4 g4 p4 xs4 dx4 tn4 dP4 dN4 s26 ht4 hg4 eB4 hp4 nP4 nN4 => ?_
    have m3P := (hg3.ne nP4).1
    have m3N := (hg3.ne nN4).2
    have m2P := (hg2.ne nP4).1
    have m2N := (hg2.ne nN4).2
    replace bx := bx.ext s26
    replace hg2 := hg2.ext s26
    replace hg3 := hg3.ext s26
    replace hp3 := hp3.ext s26
    replace ht := s26 _ _ ht
    clear s26 nP4 nN4 H25
    have g43 : pgB xs4 xs3 z z = true := by
      rw [pg_alike, eB4, eB3]
      simp
    have g42 : pgB xs4 xs2 z z = al1 := by
      rw [pg_alike, eB4, eB2, ← hal1, decide_eq_true (p := z = z) rfl, Bool.and_true]
      exact decide_eq_decide.mpr ⟨fun e => e.symm, fun e => e.symm⟩
    have sself2 : saB n' n' i' i' f' f' = true := by
      unfold saB
      simp
    refine ⟨_, rfl, t4, _, 0, .ref g4, rfl, rfl, SqT.of ht4, atI0, _, rfl, g4, g3, dx4, dx3, _, _, rfl, rfl, hg4.hg, hg3.hg, g4, g3, xs4, xs3, z, z, dx4, tn4, dP4, dN4, dx3, tn3, dP3, dN3, rfl, hg4, hg3, m3P.symm, m3N.symm, fun H27 s27 => ?_⟩
    replace bx := bx.ext s27
    replace hg2 := hg2.ext s27
    replace hg4 := hg4.ext s27
    replace hp3 := hp3.ext s27
    replace hp4 := hp4.ext s27
    replace ht := s27 _ _ ht
    replace ht4 := s27 _ _ ht4
    clear s27 hg3 H26
    obtain ⟨dp4, hp4i⟩ := id hp4
    obtain ⟨dp3, hp3i⟩ := id hp3
    refine ⟨true, true, fun _ => True, congrArg V.bl g43, fun _ => ?_, (fun c => Bool.noConfusion c), fun H28 _ => k H28⟩
    refine ⟨_, rfl, t4, _, 1, .ref p4, rfl, rfl, SqT.of ht4, atI1, _, rfl, p4, p3, dp4, dp3, _, _, rfl, rfl, hp4i, hp3i, p4, p3, n', n', i', i', f', f', rfl, hp4, hp3, qv, qv, ?_⟩
    refine ⟨true, true, fun _ => True, congrArg V.bl sself2, fun _ => ?_, (fun c => Bool.noConfusion c), fun H28 _ => ⟨rfl, trivial⟩⟩
    refine ⟨_, rfl, t4, _, 0, .ref g4, rfl, rfl, SqT.of ht4, atI0, _, rfl, t, _, 0, .ref g2, rfl, rfl, SqT.of ht, atI0, g4, g2, dx4, dx2, _, _, rfl, rfl, hg4.hg, hg2.hg, g4, g2, xs4, xs2, z, z, dx4, tn4, dP4, dN4, dx2, tn2, dP2, dN2, rfl, hg4, hg2, m2P.symm, m2N.symm, fun H28 s28 => ?_⟩
    replace bx := bx.ext s28
    refine ⟨_, rfl, _, rfl, PA, _, 0, .ref C, rfl, rfl, SqL.of bx.hP, atI0, rowsD (rwOf ys), rowsD (rwOf cs), rows_dp bx.hR, rows_dp bx.hC, rowsD_sh hok, rowsD_sh hcok, ?_⟩
    rw [g42, hrr]
    exact ⟨rfl, congrArg V.bl (decide_eq_true rfl), trivial⟩
structure ETxt (K : PySem.W.Frag) (mg : Str → Option Value) : Prop extends QTxt K mg where
  x1 : PySem.W.exmOne K (.ref (He.ga K "BadSampler")) (.ref (He.ga K "BadSampler")) = some true
end
end K36

set_option Elab.async false
set_option linter.all false
set_option maxRecDepth 100000
set_option maxHeartbeats 4000000
namespace K36
open PySem PySem.Spec PyProof.Rows L2 Vf
section
variable {K : PySem.W.Frag} {h : Heap} {mg : Str → Option Value}
theorem mk_GMeth (X : K.In h) (G : h.Ns mainGlobals mg) (c : ex K = true) : GMeth K := by
  obtain ⟨a, c⟩ := He.ba c
  have fact : ∀ (i : Nat) {f : He.Fa}, fa[i]? = some f → f.ok K = true := fun i f e => List.all_eq_true.mp a f (List.mem_of_getElem? e)
  obtain ⟨c0, c⟩ := He.ba c
  obtain ⟨c1, c⟩ := He.ba c
  obtain ⟨c2, c⟩ := He.ba c
  obtain ⟨c3, c⟩ := He.ba c
  obtain ⟨c4, c⟩ := He.ba c
  obtain ⟨c5, c⟩ := He.ba c
  obtain ⟨c6, c⟩ := He.ba c
  obtain ⟨c7, c⟩ := He.ba c
  obtain ⟨c8, c⟩ := He.ba c
  obtain ⟨c9, c⟩ := He.ba c
  obtain ⟨c10, c⟩ := He.ba c
  obtain ⟨c11, c⟩ := He.ba c
  obtain ⟨c12, c⟩ := He.ba c
  obtain ⟨c13, c⟩ := He.ba c
  obtain ⟨c14, c⟩ := He.ba c
  obtain ⟨c15, c⟩ := He.ba c
  obtain ⟨c16, c⟩ := He.ba c
  obtain ⟨c17, c⟩ := He.ba c
  obtain ⟨c18, c⟩ := He.ba c
  obtain ⟨c19, c⟩ := He.ba c
  obtain ⟨c20, c⟩ := He.ba c
  obtain ⟨c21, c⟩ := He.ba c
  exact
  { p_eq := meth_of (fact 0 (f := .meth "Place" "__eq__") rfl)
    p_ne := He.eqO_ok c0
    m_eq := meth_of (fact 1 (f := .meth "Program" "__eq__") rfl)
    m_ne := He.eqO_ok c1
    m_contains := meth_of (fact 2 (f := .meth "Program" "__contains__") rfl)
    m_getitem := meth_of (fact 3 (f := .meth "Program" "__getitem__") rfl)
    f_getitem := c2 }
theorem mk_SMeth (X : K.In h) (G : h.Ns mainGlobals mg) (c : ex K = true) : SMeth K := by
  obtain ⟨a, c⟩ := He.ba c
  have fact : ∀ (i : Nat) {f : He.Fa}, fa[i]? = some f → f.ok K = true := fun i f e => List.all_eq_true.mp a f (List.mem_of_getElem? e)
  obtain ⟨c0, c⟩ := He.ba c
  obtain ⟨c1, c⟩ := He.ba c
  obtain ⟨c2, c⟩ := He.ba c
  obtain ⟨c3, c⟩ := He.ba c
  obtain ⟨c4, c⟩ := He.ba c
  obtain ⟨c5, c⟩ := He.ba c
  obtain ⟨c6, c⟩ := He.ba c
  obtain ⟨c7, c⟩ := He.ba c
  obtain ⟨c8, c⟩ := He.ba c
  obtain ⟨c9, c⟩ := He.ba c
  obtain ⟨c10, c⟩ := He.ba c
  obtain ⟨c11, c⟩ := He.ba c
  obtain ⟨c12, c⟩ := He.ba c
  obtain ⟨c13, c⟩ := He.ba c
  obtain ⟨c14, c⟩ := He.ba c
  obtain ⟨c15, c⟩ := He.ba c
  obtain ⟨c16, c⟩ := He.ba c
  obtain ⟨c17, c⟩ := He.ba c
  obtain ⟨c18, c⟩ := He.ba c
  obtain ⟨c19, c⟩ := He.ba c
  obtain ⟨c20, c⟩ := He.ba c
  obtain ⟨c21, c⟩ := He.ba c
  exact
  { s_eq := meth_of (fact 4 (f := .meth "Sampler" "__eq__") rfl)
    s_ne := He.eqO_ok c3 }
theorem mk_ETxt (X : K.In h) (G : h.Ns mainGlobals mg) (c : ex K = true) : ETxt K mg := by
  obtain ⟨a, c⟩ := He.ba c
  have fact : ∀ (i : Nat) {f : He.Fa}, fa[i]? = some f → f.ok K = true := fun i f e => List.all_eq_true.mp a f (List.mem_of_getElem? e)
  obtain ⟨c0, c⟩ := He.ba c
  obtain ⟨c1, c⟩ := He.ba c
  obtain ⟨c2, c⟩ := He.ba c
  obtain ⟨c3, c⟩ := He.ba c
  obtain ⟨c4, c⟩ := He.ba c
  obtain ⟨c5, c⟩ := He.ba c
  obtain ⟨c6, c⟩ := He.ba c
  obtain ⟨c7, c⟩ := He.ba c
  obtain ⟨c8, c⟩ := He.ba c
  obtain ⟨c9, c⟩ := He.ba c
  obtain ⟨c10, c⟩ := He.ba c
  obtain ⟨c11, c⟩ := He.ba c
  obtain ⟨c12, c⟩ := He.ba c
  obtain ⟨c13, c⟩ := He.ba c
  obtain ⟨c14, c⟩ := He.ba c
  obtain ⟨c15, c⟩ := He.ba c
  obtain ⟨c16, c⟩ := He.ba c
  obtain ⟨c17, c⟩ := He.ba c
  obtain ⟨c18, c⟩ := He.ba c
  obtain ⟨c19, c⟩ := He.ba c
  obtain ⟨c20, c⟩ := He.ba c
  obtain ⟨c21, c⟩ := He.ba c
  exact
  { z_int := He.free_ok X G (fact 5 (f := .free "int") rfl)
    z_bool := He.free_ok X G (fact 6 (f := .free "bool") rfl)
    z_str := He.free_ok X G (fact 7 (f := .free "str") rfl)
    z_len := He.free_ok X G (fact 8 (f := .free "len") rfl)
    z_all := He.free_ok X G (fact 9 (f := .free "all") rfl)
    z_isinstance := He.free_ok X G (fact 10 (f := .free "isinstance") rfl)
    i_LONGEST_NAME := He.int_ok X G (fact 11 (f := .int "LONGEST_NAME" 8) rfl)
    i_MOST_TICKS := He.int_ok X G (fact 12 (f := .int "MOST_TICKS" 6) rfl)
    i_LETTERS := He.str_ok X G (fact 13 (f := .str "LETTERS" "abcdefghijklmnopqrstuvwxyz") rfl)
    g_KEPT_WORDS := He.glo_ok X G (fact 14 (f := .glo "KEPT_WORDS") rfl)
    t_KEPT := c4
    g_is_integer := He.glo_ok X G (fact 15 (f := .glo "is_integer") rfl)
    g_is_integer_from := He.glo_ok X G (fact 16 (f := .glo "is_integer_from") rfl)
    g_is_flag := He.glo_ok X G (fact 17 (f := .glo "is_flag") rfl)
    g_is_name := He.glo_ok X G (fact 18 (f := .glo "is_name") rfl)
    g_Place := He.glo_ok X G (fact 19 (f := .glo "Place") rfl)
    g_BadPlace := He.glo_ok X G (fact 20 (f := .glo "BadPlace") rfl)
    c_Place := cls_of (fact 21 (f := .cls "Place") rfl)
    m_Place := mk_of (fact 22 (f := .mkr "Place") rfl)
    nN := noat_of (fact 23 (f := .noat "Place" "name") rfl)
    nL := noat_of (fact 24 (f := .noat "Place" "least") rfl)
    nM := noat_of (fact 25 (f := .noat "Place" "most") rfl)
    nT := noat_of (fact 26 (f := .noat "Place" "let") rfl)
    x_BadPlace := exI_ok c5
    hn := He.eqO_ok c6
    ht := of_decide_eq_true c7
    ha := He.eqO_ok c8
    hm := of_decide_eq_true c9
    k1 := of_decide_eq_true c10
    z_enumerate := He.free_ok X G (fact 27 (f := .free "enumerate") rfl)
    z_list := He.free_ok X G (fact 28 (f := .free "list") rfl)
    z_tuple := He.free_ok X G (fact 29 (f := .free "tuple") rfl)
    z_dict := He.free_ok X G (fact 30 (f := .free "dict") rfl)
    i_MOST_PLACES := He.int_ok X G (fact 31 (f := .int "MOST_PLACES" 6) rfl)
    g_has_twins := He.glo_ok X G (fact 32 (f := .glo "has_twins") rfl)
    g_is_one_of := He.glo_ok X G (fact 33 (f := .glo "is_one_of") rfl)
    g_are_places := He.glo_ok X G (fact 34 (f := .glo "are_places") rfl)
    g_are_nexts := He.glo_ok X G (fact 35 (f := .glo "are_nexts") rfl)
    g_is_choice := He.glo_ok X G (fact 36 (f := .glo "is_choice") rfl)
    g_Program := He.glo_ok X G (fact 37 (f := .glo "Program") rfl)
    g_BadProgram := He.glo_ok X G (fact 38 (f := .glo "BadProgram") rfl)
    g_NoPlace := He.glo_ok X G (fact 39 (f := .glo "NoPlace") rfl)
    c_Program := cls_of (fact 40 (f := .cls "Program") rfl)
    m_Program := mk_of (fact 41 (f := .mkr "Program") rfl)
    nA := noat_of (fact 42 (f := .noat "Program" "names") rfl)
    nB := noat_of (fact 43 (f := .noat "Program" "start") rfl)
    nC := noat_of (fact 44 (f := .noat "Program" "_places") rfl)
    nD := noat_of (fact 45 (f := .noat "Program" "_nexts") rfl)
    x_BadProgram := exI_ok c11
    x_NoPlace := exI_ok c12
    pa := He.eqO_ok c13
    pm := of_decide_eq_true c14
    pk := of_decide_eq_true c15
    sa := He.eqO_ok c16
    sm := of_decide_eq_true c17
    sk := of_decide_eq_true c18
    z_range := He.free_ok X G (fact 46 (f := .free "range") rfl)
    i_MOST_PERIOD := He.int_ok X G (fact 47 (f := .int "MOST_PERIOD" 8) rfl)
    g_Sampler := He.glo_ok X G (fact 48 (f := .glo "Sampler") rfl)
    g_BadSampler := He.glo_ok X G (fact 49 (f := .glo "BadSampler") rfl)
    c_Sampler := cls_of (fact 50 (f := .cls "Sampler") rfl)
    m_Sampler := mk_of (fact 51 (f := .mkr "Sampler") rfl)
    sP := noat_of (fact 52 (f := .noat "Sampler" "period") rfl)
    sJ := noat_of (fact 53 (f := .noat "Sampler" "jitter") rfl)
    sF := noat_of (fact 54 (f := .noat "Sampler" "phase") rfl)
    x_BadSampler := exI_ok c19
    i_MOST_TEXT := He.int_ok X G (fact 55 (f := .int "MOST_TEXT" 1000) rfl)
    i_DIGITS := He.str_ok X G (fact 56 (f := .str "DIGITS" "0123456789") rfl)
    x_BadText := exI_ok c20
    x1 := of_decide_eq_true c21
    g_write := He.glo_ok X G (fact 57 (f := .glo "write") rfl)
    g_read := He.glo_ok X G (fact 58 (f := .glo "read") rfl)
    g_lines_of := He.glo_ok X G (fact 59 (f := .glo "lines_of") rfl)
    g_check_end := He.glo_ok X G (fact 60 (f := .glo "check_end") rfl)
    g_with_names := He.glo_ok X G (fact 61 (f := .glo "with_names") rfl)
    g_program_with := He.glo_ok X G (fact 62 (f := .glo "program_with") rfl)
    g_start_line := He.glo_ok X G (fact 63 (f := .glo "start_line") rfl)
    g_place_line := He.glo_ok X G (fact 64 (f := .glo "place_line") rfl)
    g_sampler_line := He.glo_ok X G (fact 65 (f := .glo "sampler_line") rfl)
    g_digit_of := He.glo_ok X G (fact 66 (f := .glo "digit_of") rfl)
    g_start_told := He.glo_ok X G (fact 67 (f := .glo "start_told") rfl)
    g_place_told := He.glo_ok X G (fact 68 (f := .glo "place_told") rfl)
    g_sampler_told := He.glo_ok X G (fact 69 (f := .glo "sampler_told") rfl)
    g_BadText := He.glo_ok X G (fact 70 (f := .glo "BadText") rfl)
    g_law_cell := He.glo_ok X G (fact 71 (f := .glo "_law_cell") rfl)
    g_law_take := He.glo_ok X G (fact 72 (f := .glo "_law_take") rfl)
    g_law_name := He.glo_ok X G (fact 73 (f := .glo "_law_name") rfl)
    g_law_rows := He.glo_ok X G (fact 74 (f := .glo "_law_rows") rfl)
    g_law_nexts := He.glo_ok X G (fact 75 (f := .glo "_law_nexts") rfl)
    g_law_program := He.glo_ok X G (fact 76 (f := .glo "_law_program") rfl)
    g_law_is_integer := He.glo_ok X G (fact 77 (f := .glo "_law_is_integer") rfl)
    g_law_row := He.glo_ok X G (fact 78 (f := .glo "_law_row") rfl)
    g_law_spec := He.glo_ok X G (fact 79 (f := .glo "_law_spec") rfl)
    g_law_sampler := He.glo_ok X G (fact 80 (f := .glo "_law_sampler") rfl)
    g_law_changed := He.glo_ok X G (fact 81 (f := .glo "_law_changed") rfl)
    g_law_same := He.glo_ok X G (fact 82 (f := .glo "_law_same") rfl) }
theorem facts {P : Program} {w : World} {f : Addr} (X : K.In h) (G : h.Ns mainGlobals mg) (hfa : mg ("law" : Str) = some (.ref f)) (c : SaysP ex fn gt K) :
    ∃ fd : FuncData, (∀ (s : Shared) (v : Value), BindsTo s fd ⟨[v], []⟩ [("_law_script", v)]) ∧ ∀ base : Heap, K.In base → base.Ns mainGlobals mg → FnOk P w K mg base CX0 10 f fd ["_law_script"] (spLaw K) := by
  obtain ⟨d0, F0⟩ := c.fn 0
  obtain ⟨d1, F1⟩ := c.fn 1
  obtain ⟨d2, F2⟩ := c.fn 2
  obtain ⟨d3, F3⟩ := c.fn 3
  obtain ⟨d4, F4⟩ := c.fn 4
  obtain ⟨d5, F5⟩ := c.fn 5
  obtain ⟨d6, F6⟩ := c.fn 6
  obtain ⟨d7, F7⟩ := c.fn 7
  obtain ⟨d8, F8⟩ := c.fn 8
  obtain ⟨d9, F9⟩ := c.fn 9
  obtain ⟨d10, F10⟩ := c.fn 10
  obtain ⟨d11, F11⟩ := c.fn 11
  obtain ⟨d12, F12⟩ := c.fn 12
  obtain ⟨d13, F13⟩ := c.fn 13
  obtain ⟨d14, F14⟩ := c.fn 14
  obtain ⟨d15, F15⟩ := c.fn 15
  obtain ⟨d16, F16⟩ := c.fn 16
  obtain ⟨d17, F17⟩ := c.fn 17
  obtain ⟨d18, F18⟩ := c.fn 18
  obtain ⟨d19, F19⟩ := c.fn 19
  obtain ⟨d20, F20⟩ := c.fn 20
  obtain ⟨d21, F21⟩ := c.fn 21
  obtain ⟨d22, F22⟩ := c.fn 22
  obtain ⟨d23, F23⟩ := c.fn 23
  obtain ⟨d24, F24⟩ := c.fn 24
  obtain ⟨d25, F25⟩ := c.fn 25
  obtain ⟨d26, F26⟩ := c.fn 26
  obtain ⟨d27, F27⟩ := c.fn 27
  obtain ⟨d28, F28⟩ := c.fn 28
  obtain ⟨d29, F29⟩ := c.fn 29
  obtain ⟨d30, F30⟩ := c.fn 30
  obtain ⟨d31, F31⟩ := c.fn 31
  obtain ⟨d32, F32⟩ := c.fn 32
  obtain ⟨d33, F33⟩ := c.fn 33
  obtain ⟨d34, F34⟩ := c.fn 34
  obtain ⟨d35, F35⟩ := c.fn 35
  obtain ⟨d36, F36⟩ := c.fn 36
  obtain ⟨d37, F37⟩ := c.fn 37
  obtain ⟨d38, F38⟩ := c.fn 38
  obtain ⟨d39, F39⟩ := c.fn 39
  obtain ⟨d40, F40⟩ := c.fn 40
  obtain ⟨d41, F41⟩ := c.fn 41
  obtain ⟨d42, F42⟩ := c.fn 42
  obtain ⟨d43, F43⟩ := c.fn 43
  obtain ⟨d44, F44⟩ := c.fn 44
  obtain ⟨d45, F45⟩ := c.fn 45
  obtain ⟨d46, F46⟩ := c.fn 46
  obtain ⟨⟨e0, G0⟩, p0⟩ := c.gt 0
  have hl : He.ga K "law" = f := by
    have e := He.glo_ok X G (List.all_eq_true.mp (He.ba c.ex).1 (.glo "law") (List.mem_of_getElem? (i := 83) rfl))
    rw [hfa] at e
    cases e
    rfl
  have b := FunD.bindsA (ps := ["_law_script"]) F46 fun _ _ _ _ _ _ us hl => match us, hl with | [_], _ => rfl
  refine ⟨d46, fun s v => b s [v] rfl, fun base _ _ => ?_⟩
  have ET := mk_ETxt X G c.ex
  have QT := ET.toQTxt
  have NM := mk_SMeth X G c.ex
  have T := QT.toTxt
  have M := mk_GMeth X G c.ex
  have TT := T.toTTxt
  have RT := TT.toRTxt
  have GT := RT.toGTxt
  have S := GT.toPTxt
  have A_is_integer := ok_is_integer (P := P) (w := w) (base := base) F0 S
  have A_is_integer_from := ok_is_integer_from F1 S A_is_integer
  have A_is_flag := ok_is_flag (P := P) (w := w) (base := base) F2 S
  have A_is_name := ok_is_name (P := P) (w := w) (base := base) F3 S
  have A_has_twins := ok_has_twins (P := P) (w := w) (base := base) F4 GT
  have A_BadPlace := ok_BadPlace_init (P := P) (w := w) (mg := mg) (base := base) F5
  have GP := ok_Place_init F6 S A_is_name A_is_integer_from A_is_flag A_BadPlace
  have IP := O_Place3k F6 GP
  have A_BadProgram := ok_BadProgram_init (P := P) (w := w) (mg := mg) (base := base) F8
  have A_NoPlace := ok_NoPlace_init (P := P) (w := w) (mg := mg) (base := base) F9
  have A_is_one_of := ok_is_one_of (P := P) (w := w) (base := base) F13 GT
  have A_is_choice := ok_is_choice F16 GT A_is_one_of A_has_twins
  have A_are_places := ok_are_places F14 GT A_has_twins
  have A_are_nexts := ok_are_nexts F15 GT A_is_choice
  have GG := ok_Program_init F10 GT A_are_places A_are_nexts A_is_one_of A_BadProgram
  have IG := O_Program2k F10 GG
  have A_contains := ok_Program_contains F11 GT A_is_one_of
  have A_getitem := ok_Program_getitem F12 GT M A_contains A_NoPlace
  have N0 := ok_Program_nexts (P := P) (w := w) (base := base) G0 p0 GT
  have A_BadSampler := ok_BadSampler_init (P := P) (w := w) (mg := mg) (base := base) F17
  have GS := ok_Sampler_init F18 RT A_is_integer_from A_BadSampler
  have IS := O_Sampler2k F18 GS
  have A_BadText := ok_BadText_init (P := P) (w := w) (mg := mg) (base := base) F19
  have A_dig := ok_digit_of (P := P) (w := w) (base := base) F29 TT
  have A_lno := ok_lines_of F22 TT A_BadText
  have A_cke := ok_check_end F23 TT A_BadText
  have A_sln := ok_start_line (P := P) (w := w) (base := base) F26 TT
  have A_pln := ok_place_line (P := P) (w := w) (base := base) F27 TT
  have A_sml := ok_sampler_line (P := P) (w := w) (base := base) F28 TT
  have A_sto := ok_start_told F30 TT A_is_name A_sln
  have A_smt := ok_sampler_told F32 TT ET.x1 A_dig A_sml IS
  have A_plt := ok_place_told F31 TT A_is_name A_has_twins A_dig A_pln IP
  have A_wn := ok_with_names (P := P) (w := w) (base := base) F24 TT
  have A_pgw := ok_program_with F25 TT IG
  have A_wt := ok_write F20 TT M A_getitem N0 A_sln A_pln A_sml
  have A_rd := ok_read F21 TT A_lno A_sto A_smt A_cke A_plt A_pgw A_wn A_BadText
  have A_law_take := ok_law_take (P := P) (w := w) (base := base) F33 T
  have A_law_cell := ok_law_cell (P := P) (w := w) (base := base) F34 T
  have A_law_nexts := ok_law_nexts (P := P) (w := w) (base := base) F37 T
  have A_law_name := ok_law_name F35 T A_law_take
  have A_law_rows := ok_law_rows F36 T A_law_take A_law_name
  have A_law_program := ok_law_program F38 T A_law_nexts IP IG
  have A_law_spec := ok_law_spec F39 T A_law_take
  have A_law_sampler := ok_law_sampler F40 T IS
  have A_peq := ok_Place_eq (P := P) (w := w) (base := base) F7 S
  have A_geq := ok_Program_eq F44 GT M A_peq
  have A_seq := ok_Sampler_eq (P := P) (w := w) (base := base) F45 QT
  have A_law_is_integer := ok_law_is_integer (P := P) (w := w) (base := base) F41 T
  have A_law_changed := ok_law_changed F42 T A_law_take
  have A_law_same := ok_law_same F43 T M A_law_is_integer A_law_nexts A_getitem N0
  have r := ok_law F46 QT M NM A_law_cell A_law_take A_law_spec A_law_rows A_law_changed A_law_program A_law_sampler A_law_same A_wt A_rd A_geq A_seq
  rw [← hl]
  exact r
end
end K36
open PySem PySem.W PySem.Calls PyProof.Rows
theorem PySem.Challenge.cw_seenshares_k36_whole_texts_read_back_holds : PySem.Challenge.rw_seenshares_k36_whole_texts_read_back.Holds := by
  w_on; o_law
  refine HandSHeadRun.head_any (r := OpenLaw.row PySem.Challenge.rw_seenshares_k36_whole_texts_read_back) (q := view (OpenLaw.row PySem.Challenge.rw_seenshares_k36_whole_texts_read_back).prog [58]) (H := K36.hk) (ob := K36.ob) (M := 100000) (loose := K36.names)
    (d := HandSHeadRun.topDef (OpenLaw.row PySem.Challenge.rw_seenshares_k36_whole_texts_read_back).prog 58) (kwd := []) K36.ob_eq (by kernel_rfl) (fun s => by kernel_rfl) K36.run (by kernel_rfl) (by kernel_rfl) (by kernel_rfl) (by rfl) (by first | assumption | decide +kernel) (by decide +kernel) ⟨rfl, rfl, rfl, rfl, rfl, by decide +kernel⟩ ?hw ?hc
  case hw => w_witness2
  case hc =>
    refine L2.walk_ofE (l := PySem.Challenge.rw_seenshares_k36_whole_texts_read_back) (n := 63) (k := 10) (x := "_law_script") (CX := L2.CX0) rfl (by decide) (by kernel_rfl) ⟨rfl, by decide, by decide⟩ ?F (fun _ _ _ _ z => z)
    intro w mg fa h Y G hmg0
    obtain ⟨K, KX, c⟩ := Y
    have hmg : mg ("law" : PySem.Str) = some (.ref fa) := by
      have e : (HandSHeadRun.topDef (OpenLaw.row PySem.Challenge.rw_seenshares_k36_whole_texts_read_back).prog 58).name = ("law" : PySem.Str) := by kernel_rfl
      rw [← e]
      exact hmg0
    obtain ⟨fd, hb, hF⟩ := K36.facts (P := (PySem.Challenge.rw_seenshares_k36_whole_texts_read_back).prog) (w := w) KX G hmg c
    exact ⟨K, fd, K36.spLaw K, KX, hb, fun H a ns hl _ hS => ⟨a, ns, rfl, hS, hl, fun _ => rfl⟩, hF⟩
#print axioms PySem.Challenge.cw_seenshares_k36_whole_texts_read_back_holds
