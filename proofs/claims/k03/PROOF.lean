import PyProof.Rows.All
import Wide.All
import OpenK.AllK
import Wide.FinOn
import PyProof.EqAt
import PyProof.EqKinds
import PyProof.TupleCall
import KE.KStateDown
import KE.KCallOwn
import HandS.ForExc
import HandS.Wide
import HandS.Gcd
import HandS.Defaults
import HandS.IsInst
import HandS.ExcInit
import HandS.ExcField
import HandS.ExcIs
import HandS.FStr
import HandS.Codes
import HandS.Dict
import HandS.Head0
import HandS.Head1
import HandS.Head2
import HandS.Head3
import HandS.HeadEnd
import HandS.HeadHook1
import HandS.HeadHook2
import KE.KExcIs
import KE.KOpsOwn
import PyProof.FactsAll.int_1
import PyProof.FactsAll.int_2
import PyProof.FactsAll.int_3
import PyProof.FactsAll.int_5
import HandS.TryOnly
import HandS.Small
import PyProof.FactsAll.str_1
import PyProof.FactsAll.tuple_1
import PyProof.FactsAll.list_1
import PyProof.FactsAll.dict_1
import PyProof.FactsAll.bool_1
import PyProof.FactsAll.NoneType_1
import HandS.OwnEq
import PySem.Challenge.RW_seenshares_k03_share_order
set_option Elab.async false
set_option linter.all false
set_option maxRecDepth 100000
set_option maxHeartbeats 2000000
namespace Vf
open PySem PySem.Spec PyProof.Rows L2
/-! ### defs at their places -/
abbrev Pl : Type := Str × Option Str
structure OkD (P : Program) (w : World) (K : PySem.W.Frag) (mg : Str → Option Value) (base : Heap) (CX : CXT) (k : Nat) (p : Pl) (ps : List Str) (dvs : List V) (sp : Sp) : Prop where
  ex : ∃ fd ds, FnOk P w K mg base CX k (He.fAd K p) fd ps sp ∧ Binds K fd ps ds ∧ Vals dvs ds
  kp : PySem.W.keepIn K (.ref (He.fAd K p)) = true
section
variable {X : Cx} {CX : CXT} {k j : Nat} {ps : List Str} {sp : Sp} {dvs : List V} {x m : Str} {p pos apos : Pos} {e o : Expr} {es : List Expr} {ta : TE} {t : TA}
theorem c_fn {E : XK} (O : OkD X.prog X.w X.K X.mg X.base CX k (x, none) ps dvs sp) (hr : Room j X.A) (hj : k ≤ j) (hm : X.mg x = some (.ref (He.ga X.K x))) (hx : Passes CX X E) (ha : PA X (e :: es) t) (hg : Gl X x := by rfl)
    (hdb : (x == ("__debug__" : Str)) = false := by decide) (he : starEach (e :: es) X.env = (false, eval e X.env) :: starEach es X.env := by rfl) (hpl : (backTo pos (starEach es X.env)).any (·.1) = false := by rfl) :
    PE X (.Call (.Name x p) (e :: es) [] pos) (tCall sp dvs E t) := by
  obtain ⟨fd, ds, F, b, v⟩ := O.ex
  exact pe_call F (hr.mono hj) hg hm O.kp b v hx ha hdb he hpl
theorem c_fnS {E : L2.St → XK} (O : OkD X.prog X.w X.K X.mg X.base CX k (x, none) ps [] sp) (hr : Room j X.A) (hj : k ≤ j) (hm : X.mg x = some (.ref (He.ga X.K x))) (hx : ∀ σ, PassesAt CX X σ (E σ)) (ha : PA X (e :: es) t) (hg : Gl X x := by rfl)
    (hdb : (x == ("__debug__" : Str)) = false := by decide) (he : starEach (e :: es) X.env = (false, eval e X.env) :: starEach es X.env := by rfl) (hpl : (backTo pos (starEach es X.env)).any (·.1) = false := by rfl) :
    PE X (.Call (.Name x p) (e :: es) [] pos) (tCallS sp E t) := by
  obtain ⟨fd, ds, F, b, v⟩ := O.ex
  cases v
  exact pe_callS F (hr.mono hj) hg hm O.kp b hx ha hdb he hpl
theorem mk_of {K : PySem.W.Frag} {x : Str} (c : (He.Fa.mkr x).ok K = true) : Mk K (He.ga K x) (He.fAd K (x, some "__init__")) := by
  obtain ⟨h1, h2⟩ := He.ba c
  obtain ⟨h2, h3⟩ := He.ba h2
  obtain ⟨h3, h4⟩ := He.ba h3
  exact ⟨h1, He.eqO_ok h2, h3, h4⟩
theorem meth_of {K : PySem.W.Frag} {x m : Str} (c : (He.Fa.meth x m).ok K = true) : Meth K (He.ga K x) m (He.fAd K (x, some m)) := by
  obtain ⟨h1, h2⟩ := He.ba c
  obtain ⟨h2, h3⟩ := He.ba h2
  exact ⟨He.eqO_ok h1, h2, h3⟩
theorem cls_of {K : PySem.W.Frag} {x : Str} (c : (He.Fa.cls x).ok K = true) : Cls K (He.ga K x) := by
  obtain ⟨h1, h2⟩ := He.ba c
  obtain ⟨h2, h3⟩ := He.ba h2
  obtain ⟨h3, h4⟩ := He.ba h3
  exact ⟨h1, h2, h3, He.eqO_ok h4⟩
theorem noat_of {K : PySem.W.Frag} {x f : Str} (c : (He.Fa.noat x f).ok K = true) : NoAttr K (He.ga K x) f := He.eqO_ok c
/-- C(e, ..) -/
theorem c_mk {E : XK} {C : Addr} (M : Mk X.K C (He.fAd X.K (x, some "__init__"))) (O : OkD X.prog X.w X.K X.mg X.base CX k (x, some "__init__") ps dvs sp) (hr : Room j X.A) (hj : k + 1 ≤ j) (hm : X.mg x = some (.ref C)) (hx : Passes CX X E) (ha : PA X (e :: es) t) (hg : Gl X x := by rfl)
    (hdb : (x == ("__debug__" : Str)) = false := by decide) (he : starEach (e :: es) X.env = (false, eval e X.env) :: starEach es X.env := by rfl) (hpl : (backTo pos (starEach es X.env)).any (·.1) = false := by rfl) :
    PE X (.Call (.Name x p) (e :: es) [] pos) (tMake C sp dvs E t) := by
  obtain ⟨fd, ds, F, b, v⟩ := O.ex
  exact pe_make M F (hr.mono hj) hg hm b v hx ha hdb he hpl
/-- o.m() -/
theorem c_me0 {E : XK} {C : Addr} {cn : Str} (hC : C = He.ga X.K cn) (he : PE X o ta) (c : Cls X.K C) (hm : Meth X.K C m (He.fAd X.K (cn, some m))) (O : OkD X.prog X.w X.K X.mg X.base CX k (cn, some m) ps dvs sp) (hr : Room j X.A) (hj : k ≤ j) (hx : Passes CX X E) {pl : Sem Bool}
    (ht : eval (.Call (.Attribute o m apos) [] [] pos) X.env = (do
      let ov ← eval o X.env
      standAt apos.atName
      let (f, first) ← holding [ov] (getMethod ov m pl)
      callWith pos f first (backTo pos (starEach [] X.env)) (backToKw pos (keywordEach [] X.env))) := by rfl) :
    PE X (.Call (.Attribute o m apos) [] [] pos) (tMeth C m sp dvs E ta tNil) := by
  obtain ⟨fd, ds, F, b, v⟩ := O.ex
  exact pe_meth0 he c hm F (hr.mono hj) b v hx ht
theorem c_me {E : XK} {C : Addr} {cn : Str} (hC : C = He.ga X.K cn) (hb : PE X o ta) (c : Cls X.K C) (hm : Meth X.K C m (He.fAd X.K (cn, some m))) (O : OkD X.prog X.w X.K X.mg X.base CX k (cn, some m) ps dvs sp) (hr : Room j X.A) (hj : k ≤ j) (hx : Passes CX X E) (ha : PA X (e :: es) t) {pl : Sem Bool}
    (hst : starEach (e :: es) X.env = (false, eval e X.env) :: starEach es X.env := by rfl) (hpl : (backTo pos (starEach es X.env)).any (·.1) = false := by rfl)
    (ht : eval (.Call (.Attribute o m apos) (e :: es) [] pos) X.env = (do
      let ov ← eval o X.env
      standAt apos.atName
      let (f, first) ← holding [ov] (getMethod ov m pl)
      callWith pos f first (backTo pos (starEach (e :: es) X.env)) (backToKw pos (keywordEach [] X.env))) := by rfl) :
    PE X (.Call (.Attribute o m apos) (e :: es) [] pos) (tMeth C m sp dvs E ta t) := by
  obtain ⟨fd, ds, F, b, v⟩ := O.ex
  exact pe_meth hb c hm F (hr.mono hj) b v hx ha hst hpl ht
end
/-! ### a try's body whose errors are wished for at any slots -/
theorem passAny {X : Cx} {W : WX} (n : Nat) (tk : Takes X W) (hn : X.N.length = n := by rfl) : Passes (L2.CX X.prog X.w) X (fun cls d H => ∀ σ : L2.St, σ.length = n → W cls d σ H) :=
  fun _ σ _ _ e s' I c => tk e s' (XE.of_call I (fun _ _ _ h => h σ (I.len.trans hn)) c)
/-! ### operators -/
section
variable {X : Cx}
/-- // by any divisor but 0 below 2 ^ 9000 -/
theorem op_fdivG : OpR X (binaryOp .FloorDiv) (rI (fun _ j => j ≠ 0 ∧ j.natAbs.log2 < 9000) fun i j => .int (i.fdiv j)) := opI fun i j _ _ _ _ _ hc q => floordiv_int hc.1 q (.inl (PyProof.noPylong_of_log2 hc.2))
/-- a built-in class as a value -/
theorem pe_ty {x : Str} {n : String} {pos : Pos} (hm : X.mg x = none) (hv : bootBuiltins x = some (.type n)) (hg : Gl X x := by rfl) (hn : x ≠ "__name__" := by decide) (hd : (x == ("__debug__" : Str)) = false := by decide) : PE X (.Name x pos) (tC (.ty n)) := pe_bltn hg hm hv rfl hn hd
/-- a class of the text as a value -/
theorem pe_cl {x : Str} {a : Addr} {pos : Pos} (hm : X.mg x = some (.ref a)) (hg : Gl X x := by rfl) (hd : (x == ("__debug__" : Str)) = false := by decide) : PE X (.Name x pos) (tC (.ref a)) := pe_glob hg hm rfl hd
/-- str(o), o of a class of the text that has its own __str__ -/
def rStrO (C : Addr) (sp : Sp) : List V → Hp → VK → Prop := fun xs H Q => ∃ a dx fs, xs = [.ref a] ∧ H a = some (.ins C dx fs) ∧ sp [.ref a] H (fun v H' => ∃ z, v = .str z ∧ Q (.str z) H') fun _ _ _ => False
theorem call_strO {k j : Nat} {C : Addr} {cn : Str} {ps : List Str} {sp : Sp} (hC : C = He.ga X.K cn) (hm : Meth X.K C "__str__" (He.fAd X.K (cn, some "__str__"))) (O : OkD X.prog X.w X.K X.mg X.base CX0 k (cn, some "__str__") ps [] sp) (hr : Room j X.A) (hj : k + 2 ≤ j) :
    CallR X (.type "str") (rStrO C sp) := by
  obtain ⟨fd, ds, F, b, v⟩ := O.ex
  cases v
  intro pins s σ H xs us Q I r h
  obtain ⟨a, dx, fs, rfl, ha, hsp⟩ := h
  obtain ⟨u, rfl, ru⟩ : ∃ u, us = [u] ∧ RelV (.ref a) u := by
    cases r with
    | cons p q => cases q; exact ⟨_, rfl, p⟩
  cases ru
  obtain ⟨mA, J, _⟩ := ins_get I.hok ha
  obtain ⟨od, J, _⟩ := J.look
  have hr2 : Room k X.A.in1.in1 := ((hr.mono hj).in1).in1
  refine PySem.W.kso_call hr2.units0 I.kIn J hm.at_ hm.fn ?_
  have hl := F.len _ _ _ _ hsp
  have hb := b s [.ref a] I.kIn (by simpa using hl)
  simp only [List.append_nil] at hb
  refine wpAny_call (codeAny_mono (F.run X.A.in1.in1 X.stack s H ⟨[.ref a], []⟩ [.ref a] [.ref a] _ _ hr2 I.env0.in1.in1 hb (.cons rfl .nil) hsp) fun r s' hq => ?_)
  cases r with
  | error e => exact hq.elim
  | ok fl =>
    cases fl with
    | ret w =>
      obtain ⟨z, H', I', rz, y, ez, q⟩ := I.after hq
      subst ez
      obtain ⟨tk, rfl⟩ := rz
      exact ⟨.str y, H', I', ⟨tk, rfl⟩, q⟩
    | next => exact False.elim hq
    | brk => exact False.elim hq
    | cont => exact False.elim hq
end
end Vf

set_option Elab.async false
set_option linter.all false
set_option maxRecDepth 100000
set_option maxHeartbeats 2000000
namespace Vf
open PySem PySem.Spec PyProof.Rows L2
/-! ### ints and other values -/
/-- a value that is no integer -/
inductive Odd (H : Hp) : V → Prop where
  | bl (b : Bool) : Odd H (.bl b)
  | non : Odd H .non
  | str (z : Str) : Odd H (.str z)
  | tup {a : Addr} {xs : List V} (h : H a = some (.tup xs)) : Odd H (.ref a)
  | lst {a : Addr} {xs : List V} (h : H a = some (.lst xs)) : Odd H (.ref a)
  | dic {a : Addr} {kvs : List (Key × V)} (h : H a = some (.dK kvs)) : Odd H (.ref a)
theorem Odd.ext {H H' : Hp} {x : V} (o : Odd H x) (s : Same H H') : Odd H' x := by
  cases o with
  | bl b => exact .bl b
  | non => exact .non
  | str z => exact .str z
  | tup h => exact .tup (s _ _ h)
  | lst h => exact .lst (s _ _ h)
  | dic h => exact .dic (s _ _ h)
theorem odd_ty (K : PySem.W.Frag) {H : Hp} {x : V} (o : Odd H x) : ∃ (n : String) (b1 b2 : Bool), TyX K H x (.type n) ∧ kitB n "int" = some b1 ∧ kitB n "bool" = some b2 ∧ (b1 && !b2) = false := by
  cases o with
  | bl b => exact ⟨"bool", true, true, .base (.bl b), by decide +kernel, by decide +kernel, rfl⟩
  | non => exact ⟨"NoneType", false, false, .base .non, by decide +kernel, by decide +kernel, rfl⟩
  | str z => exact ⟨"str", false, false, .base (.str z), by decide +kernel, by decide +kernel, rfl⟩
  | tup h => exact ⟨"tuple", false, false, .base (.tup h), by decide +kernel, by decide +kernel, rfl⟩
  | lst h => exact ⟨"list", false, false, .base (.lst h), by decide +kernel, by decide +kernel, rfl⟩
  | dic h => exact ⟨"dict", false, false, .base (.dK h), by decide +kernel, by decide +kernel, rfl⟩
theorem int_ty (K : PySem.W.Frag) (H : Hp) (n : Int) : TyX K H (.int n) (.type "int") ∧ kitB "int" "int" = some true ∧ kitB "int" "bool" = some false :=
  ⟨.base (.int n), by decide +kernel, by decide +kernel⟩
/-- is_integer(x) -/
def spIsInt : Sp := fun vs H Q _ => ∃ x, vs = [x] ∧ (((∃ n, x = .int n) ∧ Q (.bl true) H) ∨ (Odd H x ∧ Q (.bl false) H))
def t_isint (K : PySem.W.Frag) : TS := tRet (tAndV (tCB (rIsi K) (tCons (tVar 0) (tCons (tC (.ty "int")) tNil))) (tNotV (tCB (rIsi K) (tCons (tVar 0) (tCons (tC (.ty "bool")) tNil)))))
theorem run_isint {K : PySem.W.Frag} {N : List Str} {vs : List V} {H : Hp} {Q : VK} {E : XK} (h : spIsInt vs H Q E) : t_isint K { nx := fun _ H' => Q .non H', rt := Q } (start N vs) H := by
  obtain ⟨x, rfl, h⟩ := h
  have s0 : (start N [x])[0]? = some (some x) := rfl
  rcases h with ⟨⟨n, rfl⟩, q⟩ | ⟨o, q⟩
  · obtain ⟨t1, k1, k2⟩ := int_ty K H n
    refine ⟨_, s0, _, .ty "int", _, .type "int", true, rfl, .ty _, t1, kit_ty k1, true, rfl, ?_⟩
    refine iteT ?_
    exact ⟨_, s0, _, .ty "bool", _, .type "bool", false, rfl, .ty _, t1, kit_ty k2, false, rfl, q⟩
  · obtain ⟨n, b1, b2, t1, k1, k2, e⟩ := odd_ty K o
    refine ⟨_, s0, _, .ty "int", _, .type "int", b1, rfl, .ty _, t1, kit_ty k1, b1, rfl, ?_⟩
    cases b1 with
    | false => exact iteF q
    | true =>
      cases b2 with
      | false => cases e
      | true =>
        refine iteT ?_
        exact ⟨_, s0, _, .ty "bool", _, .type "bool", true, rfl, .ty _, t1, kit_ty k2, true, rfl, q⟩
/-! ### the draws -/
/-- _law_cell(script, k): some int -/
def spCell (K : PySem.W.Frag) : Sp := fun vs H Q _ => ∃ (l : Addr) (ns : List Int) (j : Nat), vs = [.ref l, .int (j : Int)] ∧ SqL K H l (ns.map V.int) ∧ j < 1000 ∧ ∀ n : Int, Q (.int n) H
/-- _law_take(draw, size) -/
def spTake : Sp := fun vs H Q _ => ∃ (d : Addr) (n s : Int), vs = [.ref d, .int s] ∧ H d = some (.lst [.int n]) ∧ 0 < s ∧ s < 1073741824 ∧ ∀ r m : Int, 0 ≤ r → r < s → Q (.int r) (upd H d (.lst [.int m]))
theorem atI0 {α : Type} {x : α} {xs : List α} : atI (x :: xs) 0 = some x := by simp [atI, ixN]
theorem atI1 {α : Type} {x y : α} {xs : List α} : atI (x :: y :: xs) 1 = some y := by
  have h : ixN (x :: y :: xs).length 1 = some 1 := by
    unfold ixN
    rw [if_pos (by omega), if_pos (by simp only [List.length_cons]; omega)]
    rfl
  unfold atI
  rw [h]
  rfl
theorem ixN0 {n : Nat} : ixN (n + 1) 0 = some 0 := by
  unfold ixN
  rw [if_pos (by omega), if_pos (by omega)]
  all_goals rfl
abbrev rAddI : R2 := rI0 fun i j => .int (i + j)
abbrev rModI : R2 := rI (fun _ j => 0 < j) fun i j => .int (i % j)
end Vf

set_option Elab.async false
set_option linter.all false
set_option maxRecDepth 100000
set_option maxHeartbeats 2000000
namespace Vf
open PySem PySem.Spec PyProof.Rows L2
/-! ### own errors: class C(..): def __init__(self, f): self.f = f -/
def oexB (K : PySem.W.Frag) (C : Addr) : Bool := match K.lookup C with
  | some ⟨.type "type", _, .cls cd, sl⟩ => (match cd.mro, sl.toList with
    | .ref C' :: bm, [_, _, _, _, some (.builtin n), _] => C' == C && n == "ValueError.__new__" && !cd.hasDel && cd.hasDict && PySem.HandSPX.refsVE bm
    | _, _ => false)
  | _ => false
theorem oexB_ok {K : PySem.W.Frag} {C : Addr} (q : oexB K C = true) : ∃ nm qn N bs bm sn sub ab col dd k0 k1 k2 k3 k5, K.lookup C = some (excClassObj nm qn C N bs bm true sn sub ab col dd k0 k1 k2 k3 k5 "ValueError.__new__") ∧ PySem.HandSPX.refsVE bm = true := by
  unfold oexB at q
  split at q
  · rename_i dd cd sl ho
    split at q
    · rename_i C' bm k0 k1 k2 k3 n k5 hm hs
      simp only [Bool.and_eq_true, beq_iff_eq, Bool.not_eq_true'] at q
      obtain ⟨⟨⟨⟨e1, e2⟩, hdel⟩, hh⟩, hbm⟩ := q
      obtain ⟨nm, bs, mro, ns, qn, hd, sn, sub, ab, col, del⟩ := cd
      obtain ⟨l⟩ := sl
      dsimp only at hm hdel hh hs
      subst hm hdel hh hs e1 e2
      exact ⟨nm, qn, ns, bs, bm, sn, sub, ab, col, dd, k0, k1, k2, k3, k5, ho, hbm⟩
    · cases q
  · cases q
/-- what is told of the error class x whose __init__ keeps its argument as f -/
structure ExD (K : PySem.W.Frag) (x : Str) : Prop where
  o : OexC K (He.ga K x)
  gg : PySem.W.findIn K (.ref (He.ga K x)) "__getattr__" = some none
  ga : PySem.W.findIn K (.ref (He.ga K x)) "__getattribute__" = some (some (.builtin "BaseException.__getattribute__"))
  ha : PySem.W.findIn K (.ref (He.ga K x)) "__class__" = some (some (.builtin "object.__class__"))
  hm : PySem.W.mroIn K (He.ga K x) (.type "object") = some true
  hd : PySem.W.hasDictIn K (He.ga K x) = true
  hcl : (PySem.W.clsIn K (He.ga K x)).isSome = true
def exD (K : PySem.W.Frag) (x : Str) : Bool :=
  oexB K (He.ga K x) && (He.eqO (PySem.W.findIn K (.ref (He.ga K x)) "__setattr__") (some (some (.builtin "object.__setattr__"))) && (decide (PySem.W.subIn K (.ref (He.ga K x)) (.type "BaseException") = some true) && (decide (PySem.W.typeIn K (.ref (He.ga K x)) = some (.type "type")) && (PySem.W.keepIn K (.ref (He.ga K x)) &&
  (He.eqO (PySem.W.findIn K (.ref (He.ga K x)) "__getattr__") (some none) && (He.eqO (PySem.W.findIn K (.ref (He.ga K x)) "__getattribute__") (some (some (.builtin "BaseException.__getattribute__"))) && (He.eqO (PySem.W.findIn K (.ref (He.ga K x)) "__class__") (some (some (.builtin "object.__class__"))) &&
  (decide (PySem.W.mroIn K (He.ga K x) (.type "object") = some true) && (PySem.W.hasDictIn K (He.ga K x) && (PySem.W.clsIn K (He.ga K x)).isSome)))))))))
theorem exD_ok {K : PySem.W.Frag} {x : Str} (h : exD K x = true) : ExD K x := by
  obtain ⟨h1, h⟩ := He.ba h
  obtain ⟨h2, h⟩ := He.ba h
  obtain ⟨h3, h⟩ := He.ba h
  obtain ⟨h4, h⟩ := He.ba h
  obtain ⟨h5, h⟩ := He.ba h
  obtain ⟨h6, h⟩ := He.ba h
  obtain ⟨h7, h⟩ := He.ba h
  obtain ⟨h8, h⟩ := He.ba h
  obtain ⟨h9, h⟩ := He.ba h
  obtain ⟨h10, h11⟩ := He.ba h
  exact ⟨⟨oexB_ok h1, He.eqO_ok h2, of_decide_eq_true h3, of_decide_eq_true h4, h5⟩, He.eqO_ok h6, He.eqO_ok h7, He.eqO_ok h8, of_decide_eq_true h9, h10, h11⟩
/-- .. with its __init__ and its field f -/
structure ExI (K : PySem.W.Frag) (x f : Str) : Prop where
  d : ExD K x
  i : PySem.W.findIn K (.ref (He.ga K x)) "__init__" = some (some (.ref (He.fAd K (x, some "__init__"))))
  t : PySem.W.typeIn K (.ref (He.fAd K (x, some "__init__"))) = some (.type "function")
  n : PySem.W.findIn K (.ref (He.ga K x)) f = some none
def exI (K : PySem.W.Frag) (x f : Str) : Bool :=
  exD K x && (He.eqO (PySem.W.findIn K (.ref (He.ga K x)) "__init__") (some (some (.ref (He.fAd K (x, some "__init__"))))) && (decide (PySem.W.typeIn K (.ref (He.fAd K (x, some "__init__"))) = some (.type "function")) && He.eqO (PySem.W.findIn K (.ref (He.ga K x)) f) (some none)))
theorem exI_ok {K : PySem.W.Frag} {x f : Str} (h : exI K x f = true) : ExI K x f := by
  obtain ⟨h1, h⟩ := He.ba h
  obtain ⟨h2, h⟩ := He.ba h
  obtain ⟨h3, h4⟩ := He.ba h
  exact ⟨exD_ok h1, He.eqO_ok h2, of_decide_eq_true h3, He.eqO_ok h4⟩
/-- the __init__: self.f = v -/
def spExI (K : PySem.W.Frag) (C : Addr) (f : Str) : Sp := fun vs H Q _ => ∃ (a : Addr) (v : V), vs = [.ref a, v] ∧ OexC K C ∧ PySem.W.findIn K (.ref C) f = some none ∧ H a = some (exo a C none) ∧
  ∀ dx, H dx = none → dx ≠ a → Q .non (upd (upd H dx (exd dx [(f, v)])) a (exo a C (some dx)))
theorem run_exI {K : PySem.W.Frag} {C : Addr} {f : Str} {N : List Str} {vs : List V} {H : Hp} {Q : VK} {E : XK} (h : spExI K C f vs H Q E) : tOst K f (tVar 0) (tVar 1) { nx := fun _ H' => Q .non H', rt := Q } (start N vs) H := by
  obtain ⟨a, v, rfl, T, hn, ea, q⟩ := h
  have s0 : (start N [.ref a, v])[0]? = some (some (.ref a)) := rfl
  have s1 : (start N [.ref a, v])[1]? = some (some v) := rfl
  exact ⟨_, s1, _, s0, a, C, rfl, T, hn, .inl ⟨ea, fun dx h1 h2 => q dx h1 h2⟩⟩
/-- the heap behind the making: the error's own dict alone is new -/
theorem exc_heap {H : Hp} {a d : Addr} {o1 o2 o3 o4 : HO} (ha : H a = none) (hda : d ≠ a) : upd (del (upd (upd (upd H a o1) d o2) a o3) a) d o4 = upd H d o4 := by
  funext b
  by_cases h1 : b = d
  · rw [h1, upd_same, upd_same]
  · rw [upd_ne h1, upd_ne h1]
    by_cases h2 : b = a
    · rw [h2, del_same, ha]
    · rw [del_ne h2, upd_ne h2, upd_ne h1, upd_ne h2]
theorem pa_weak {X : Cx} {es : List Expr} {ta : TA} (ha : PA X es ta) : PA X es (fun σ H Q => ∃ R, ta σ H R ∧ ∀ vs H1, R vs H1 → Q vs H1) := ⟨fun pos pins s σ H Q I h => by
  obtain ⟨R, h1, h2⟩ := h
  exact thn (ha.run pos pins s σ H R I h1) fun us s1 ⟨vs, H1, I1, r, q⟩ => ⟨vs, H1, I1, r, h2 _ _ q⟩⟩
section
variable {X : Cx} {CX : CXT} {k j : Nat} {ps : List Str} {x f : Str} {p pos pos2 : Pos} {e : Expr} {es : List Expr} {ta : TA} {W : WX}
/-- raise C(e): the error's dict, new, holds f -/
def tRaiseI (C : Addr) (f : Str) (W : WX) (ta : TA) : TS := fun _ σ H => ta σ H fun vs H1 => ∃ v, vs = [v] ∧ ∀ d, H1 d = none → W (.ref C) (some d) σ (upd H1 d (.xd [(f, v)]))
theorem c_raise (T : ExI X.K x f) (O : OkD X.prog X.w X.K X.mg X.base CX0 k (x, some "__init__") ps [] (spExI X.K (He.ga X.K x) f)) (hr : Room j X.A) (hj : k + 1 ≤ j) (hm : X.mg x = some (.ref (He.ga X.K x))) (tk : Takes X W) (ha : PA X (e :: es) ta) (hc : X.calm = true := by rfl) (hg : Gl X x := by rfl)
    (hdb : (x == ("__debug__" : Str)) = false := by decide) (he : starEach (e :: es) X.env = (false, eval e X.env) :: starEach es X.env := by rfl) (hpl : (backTo pos (starEach es X.env)).any (·.1) = false := by rfl) :
    PS X (.Raise (some (.Call (.Name x p) (e :: es) [] pos)) none pos2) (tRaiseI (He.ga X.K x) f W ta) := by
  obtain ⟨fd, ds, F, b, v⟩ := O.ex
  cases v
  refine ⟨fun pins s σ H D I h => (ps_raise hc tk (pmk_oex (p := p) T.d.o T.i T.t F (hr.mono hj) b .nil pass0 hg hm (pa_weak ha) hdb he hpl)).run pins s σ H D I ?_⟩
  refine ⟨_, h, fun vs H1 z => ?_⟩
  obtain ⟨v, rfl, q⟩ := z
  refine ⟨(by show 1 ≤ 1000; decide), fun a na => ⟨a, v, rfl, T.d.o, T.n, upd_same, fun dx h1 h2 => ?_⟩⟩
  have hdx : H1 dx = none := by
    rw [upd_ne h2] at h1
    exact h1
  refine ⟨rfl, dx, [(f, v)], upd_same, ?_, hdx, ?_⟩
  · rw [upd_ne h2, upd_same]
  · rw [exc_heap na h2]
    exact q dx hdx
end
/-! ### isinstance(e, c) of a caught error -/
section
variable {X : Cx}
theorem call_isiE {a D : Addr} {d : Option Addr} {oe : Obj} {pn : List (Addr × Obj)} {x : Str} (hD : D = He.ga X.K x) (T : ExD X.K x) (hn : PySem.W.specialIn X.K (.builtin "object.__class__") "__get__" = some (some (.builtin "getset_descriptor.__get__")))
    (ht : PySem.W.takesIn X.K (.builtin "object.__class__") = some true) {cls : Value} (hz : Zc cls d oe) (hf : ∃ vs, oe.data = .fields vs) : CallR (X.suite a ((a, oe) :: pn)) (.builtin "isinstance")
      (fun xs H Q => ∃ (c : V) (cv : Value) (b : Bool), xs = [.ref a, c] ∧ cls = .ref D ∧ ClsV c cv ∧ PySem.W.kitOne X.K (.ref D) cv = some b ∧ (∃ dd fs, d = some dd ∧ H dd = some (.xd fs)) ∧ Q (.bl b) H) := by
  subst hD
  intro pins s σ H xs us Q I r h
  obtain ⟨c, cv, b, rfl, ec, hcv, e, ⟨dd, fs, ed, hdd⟩, q⟩ := h
  obtain ⟨u1, u2, rfl, r1, r2⟩ := vals2 r
  have e2 := hcv.eq r2
  subst e2
  cases r1
  obtain ⟨hget, _⟩ := I.pin (a, oe) (List.mem_append.mpr (.inl List.mem_cons_self))
  obtain ⟨vs, hv⟩ := hf
  subst ed ec
  obtain ⟨mA, ⟨od, es, ep, ho, _⟩, _⟩ := (show ObjOk X.prog X.w H s.heap dd (.xd fs) from I.hok dd _ hdd)
  have J : PySem.W.InstAt s.heap a oe (He.ga X.K x) (some od) := by
    obtain ⟨oc, odd, oda, osl⟩ := oe
    obtain ⟨h1, h2⟩ := hz
    dsimp only at h1 h2 hv
    subst h1 h2 hv
    exact ⟨hget, rfl, rfl, ho⟩
  exact PySem.W.kia_one (PySem.W.kitx_exc T.hcl T.ga T.gg T.o.exC T.ha hn ht T.hm) I.kIn J e (fun z => nomatch z) fun tk => ⟨.bl b, H, I.kept (t' := tk) fun _ _ z => z, rfl, q⟩
end
/-! ### the head's hook: any Bool over the written part, the defs -/
abbrev AlM : Type := Bool × List He.FnW
def obsM (ex : PySem.W.Frag → Bool) (fn : List He.DefD) (K : PySem.W.Frag) : AlM := (ex K && fn.all fun d => d.ok K, fn.map fun d => He.fnW K d.at_)
def SaysM (ex : PySem.W.Frag → Bool) (fn : List He.DefD) (K : PySem.W.Frag) : Prop := obsM ex fn K = (true, fn.map He.DefD.val)
def obsMG (n : Nat) (ex : PySem.W.Frag → Bool) (fn : List He.DefD) (g : Addr → Option Obj) : AlM := obsM ex fn (He.frG g (He.asD g n))
def hookM (n : Nat) (ex : PySem.W.Frag → Bool) (fn : List He.DefD) : PySem.W.Hook where
  α := AlM
  obs := fun s => obsMG n ex fn s.heap.get?
  val := fun _ => (true, fn.map He.DefD.val)
  says := fun _ h => ∃ K : PySem.W.Frag, K.In h ∧ SaysM ex fn K
  of := fun _ _ e => ⟨_, He.frG_in, e⟩
  keeps := fun _ _ _ ⟨K, hK, c⟩ k => ⟨K, PySem.W.Frag.In.keeps hK k, c⟩
theorem obsMG_eq {n : Nat} {ex : PySem.W.Frag → Bool} {fn : List He.DefD} {g : Addr → Option Obj} {s : Shared} (h : ∀ a, g a = s.heap.get? a) : obsMG n ex fn g = (hookM n ex fn).obs s := by
  have e : g = s.heap.get? := funext h
  rw [e]
  rfl
theorem SaysM.ex {ex : PySem.W.Frag → Bool} {fn : List He.DefD} {K : PySem.W.Frag} (c : SaysM ex fn K) : ex K = true := (He.ba (congrArg (fun z : AlM => z.1) c)).1
theorem SaysM.fn {ex : PySem.W.Frag → Bool} {fn : List He.DefD} {K : PySem.W.Frag} (c : SaysM ex fn K) (i : Nat) {d : He.DefD} (h : fn[i]? = some d := by rfl) : ∃ fd, FunD K d.name d.qual d.params d.body d.scope (d.dvs K) (d.kws K) (He.fAd K d.at_) fd := by
  have c2 := (He.ba (congrArg (fun z : AlM => z.1) c)).2
  have e : fn.map (fun d => He.fnW K d.at_) = fn.map He.DefD.val := congrArg (fun z : AlM => z.2) c
  have e2 : He.fnW K d.at_ = d.val := by
    have e3 : (fn.map fun d => He.fnW K d.at_)[i]? = (fn.map He.DefD.val)[i]? := by rw [e]
    simp only [List.getElem?_map, h, Option.map_some] at e3
    exact Option.some.inj e3
  exact He.DefD.funD e2 (List.all_eq_true.mp c2 d (List.mem_of_getElem? h))

end Vf

set_option Elab.async false
set_option linter.all false
set_option maxRecDepth 100000
set_option maxHeartbeats 2000000
namespace Vf
open PySem PySem.Spec PyProof.Rows L2
/-! ### Euclid's loop -/
def Eu (g B i x y : Nat) : Prop := Nat.gcd x y = g ∧ ((i % 2 = 0 ∧ y * 2 ^ (i / 2) ≤ B) ∨ (i % 2 = 1 ∧ y < x ∧ x * 2 ^ (i / 2) ≤ B))
theorem Eu.start (x y : Nat) : Eu (Nat.gcd x y) y 0 x y := ⟨rfl, .inl ⟨rfl, by simp⟩⟩
theorem Eu.step {g B i x y : Nat} (h : Eu g B i x y) (hy : y ≠ 0) : Eu g B (i + 1) y (x % y) := by
  obtain ⟨hg, h⟩ := h
  have hg2 : Nat.gcd y (x % y) = g := by
    rw [← hg, Nat.gcd_comm x y, Nat.gcd_rec y x, Nat.gcd_comm]
  have hlt : x % y < y := Nat.mod_lt x (by omega)
  refine ⟨hg2, ?_⟩
  rcases h with ⟨he, hb⟩ | ⟨ho, hxy, hb⟩
  · refine .inr ⟨by omega, hlt, ?_⟩
    have e : (i + 1) / 2 = i / 2 := by omega
    rw [e]
    exact hb
  · refine .inl ⟨by omega, ?_⟩
    have e : (i + 1) / 2 = i / 2 + 1 := by omega
    have hd := Nat.div_add_mod x y
    have h1 : 1 ≤ x / y := Nat.div_pos (by omega) (by omega)
    have h2 : y * 1 ≤ y * (x / y) := Nat.mul_le_mul_left y h1
    have h3 : 2 * (x % y) ≤ x := by omega
    rw [e, Nat.pow_succ]
    calc x % y * (2 ^ (i / 2) * 2) = (2 * (x % y)) * 2 ^ (i / 2) := by rw [Nat.mul_comm (2 ^ (i / 2)) 2, ← Nat.mul_assoc, Nat.mul_comm (x % y) 2]
      _ ≤ x * 2 ^ (i / 2) := Nat.mul_le_mul_right _ h3
      _ ≤ B := hb
theorem Eu.last {g B x y : Nat} (h : Eu g B 500 x y) (hB : B < 2 ^ 250) : x = g := by
  obtain ⟨hg, h⟩ := h
  rcases h with ⟨_, hb⟩ | ⟨ho, _⟩
  · have e : (500 : Nat) / 2 = 250 := rfl
    rw [e] at hb
    have hy : y = 0 := by
      rcases Nat.eq_zero_or_pos y with h0 | h0
      · exact h0
      · exfalso
        have : 1 * 2 ^ 250 ≤ y * 2 ^ 250 := Nat.mul_le_mul_right _ h0
        omega
    rw [hy, Nat.gcd_zero_right] at hg
    exact hg
  · omega
theorem Eu.zero {g B i x : Nat} (h : Eu g B i x 0) : x = g := by
  have hg := h.1
  rw [Nat.gcd_zero_right] at hg
  exact hg
/-! ### lowest terms -/
def nG (t b : Int) : Int := ((Nat.gcd t.natAbs b.natAbs : Nat) : Int)
def nC (t b : Int) : Int := if b < 0 then -(nG t b) else nG t b
def nT (t b : Int) : Int := t.fdiv (nC t b)
def nB (t b : Int) : Int := b.fdiv (nC t b)
/-- a and b are t over b' in lowest terms -/
structure Nf (a b : Int) : Prop where
  pos : 0 < b
  cop : Nat.gcd a.natAbs b.natAbs = 1
structure NfOf (t u a b : Int) : Prop extends Nf a b where
  eq : a * u = t * b
  le1 : a.natAbs ≤ t.natAbs
  le2 : b.natAbs ≤ u.natAbs
theorem nG_pos {t b : Int} (hb : b ≠ 0) : 0 < nG t b := by
  have : 0 < Nat.gcd t.natAbs b.natAbs := Nat.gcd_pos_of_pos_right _ (by omega)
  unfold nG
  omega
theorem nC_abs (t b : Int) : (nC t b).natAbs = Nat.gcd t.natAbs b.natAbs := by
  unfold nC nG
  split <;> omega
theorem nC_ne {t b : Int} (hb : b ≠ 0) : nC t b ≠ 0 := by
  have := nG_pos (t := t) hb
  unfold nC
  split <;> omega
theorem nC_dvd1 (t b : Int) : nC t b ∣ t := by
  rw [← Int.natAbs_dvd_natAbs, nC_abs]
  exact Nat.gcd_dvd_left _ _
theorem nC_dvd2 (t b : Int) : nC t b ∣ b := by
  rw [← Int.natAbs_dvd_natAbs, nC_abs]
  exact Nat.gcd_dvd_right _ _
theorem nT_mul (t b : Int) : nT t b * nC t b = t := Int.fdiv_mul_cancel (nC_dvd1 t b)
theorem nB_mul (t b : Int) : nB t b * nC t b = b := Int.fdiv_mul_cancel (nC_dvd2 t b)
theorem nf_of (t : Int) {b : Int} (hb : b ≠ 0) : NfOf t b (nT t b) (nB t b) := by
  have e1 := nT_mul t b
  have e2 := nB_mul t b
  have hc := nC_ne (t := t) hb
  have ga := nC_abs t b
  have g0 : 0 < Nat.gcd t.natAbs b.natAbs := Nat.gcd_pos_of_pos_right _ (by omega)
  have a1 : (nT t b).natAbs * Nat.gcd t.natAbs b.natAbs = t.natAbs := by rw [← ga, ← Int.natAbs_mul, e1]
  have a2 : (nB t b).natAbs * Nat.gcd t.natAbs b.natAbs = b.natAbs := by rw [← ga, ← Int.natAbs_mul, e2]
  refine ⟨⟨?_, ?_⟩, ?_, ?_, ?_⟩
  · rcases (show 0 < nB t b ∨ nB t b ≤ 0 by omega) with h | h
    · exact h
    · exfalso
      by_cases hn : b < 0
      · have hc2 : nC t b < 0 := by
          have := nG_pos (t := t) hb
          unfold nC
          rw [if_pos hn]
          omega
        have := Int.mul_nonneg_of_nonpos_of_nonpos h (Int.le_of_lt hc2)
        omega
      · have hc2 : 0 < nC t b := by
          have := nG_pos (t := t) hb
          unfold nC
          rw [if_neg hn]
          omega
        have := Int.mul_nonpos_of_nonpos_of_nonneg h (Int.le_of_lt hc2)
        omega
  · have h := Nat.gcd_mul_right (nT t b).natAbs (Nat.gcd t.natAbs b.natAbs) (nB t b).natAbs
    rw [a1, a2] at h
    have h2 : 1 * Nat.gcd t.natAbs b.natAbs = Nat.gcd (nT t b).natAbs (nB t b).natAbs * Nat.gcd t.natAbs b.natAbs := by rw [Nat.one_mul]; exact h
    exact (Nat.eq_of_mul_eq_mul_right g0 h2).symm
  · calc nT t b * b = nT t b * (nB t b * nC t b) := by rw [e2]
      _ = (nT t b * nC t b) * nB t b := by rw [Int.mul_comm (nB t b), Int.mul_assoc]
      _ = t * nB t b := by rw [e1]
  · calc (nT t b).natAbs = (nT t b).natAbs * 1 := by rw [Nat.mul_one]
      _ ≤ (nT t b).natAbs * Nat.gcd t.natAbs b.natAbs := Nat.mul_le_mul_left _ g0
      _ = t.natAbs := a1
  · calc (nB t b).natAbs = (nB t b).natAbs * 1 := by rw [Nat.mul_one]
      _ ≤ (nB t b).natAbs * Nat.gcd t.natAbs b.natAbs := Nat.mul_le_mul_left _ g0
      _ = b.natAbs := a2
/-- bits: below 2 ^ n -/
def Bit (n : Nat) (x : Int) : Prop := x.natAbs < 2 ^ n
theorem Bit.mono {n m : Nat} {x : Int} (h : Bit n x) (l : n ≤ m) : Bit m x := Nat.lt_of_lt_of_le h (Nat.pow_le_pow_right (by decide) l)
theorem Bit.le {n : Nat} {x y : Int} (h : Bit n y) (l : x.natAbs ≤ y.natAbs) : Bit n x := Nat.lt_of_le_of_lt l h
theorem Bit.mul {n m : Nat} {x y : Int} (h : Bit n x) (h' : Bit m y) : Bit (n + m) (x * y) := by
  unfold Bit
  rw [Int.natAbs_mul, Nat.pow_add]
  exact Nat.mul_lt_mul'' h h'
theorem Bit.add {n : Nat} {x y : Int} (h : Bit n x) (h' : Bit n y) : Bit (n + 1) (x + y) := by
  unfold Bit at *
  rw [Nat.pow_succ]
  omega
theorem Bit.sub {n : Nat} {x y : Int} (h : Bit n x) (h' : Bit n y) : Bit (n + 1) (x - y) := by
  unfold Bit at *
  rw [Nat.pow_succ]
  omega
theorem Bit.neg {n : Nat} {x : Int} (h : Bit n x) : Bit n (-x) := by
  unfold Bit at *
  omega
theorem Bit.log {n m : Nat} {x : Int} (h : Bit n x) (h0 : 0 < n) (hm : n ≤ m) : x.natAbs.log2 < m := Nat.lt_of_lt_of_le (PySem.Flt.log2_lt_of h0 h) hm
theorem Bit.wm {n m : Nat} {x y : Int} (h : Bit n x) (h' : Bit m y) (h0 : 0 < n) (h1 : 0 < m) (l : n + m ≤ 1000000) : CMulW x y := wide_mul h h' h0 h1 l
end Vf

set_option Elab.async false
set_option linter.all false
set_option maxRecDepth 100000
set_option maxHeartbeats 2000000
namespace Vf
open PySem PySem.Spec PyProof.Rows L2
section
open PySem.W PySem.Calls
variable {prog : Program} {w : World} {A : Around} {E : Value → Shared → Prop} {s : Shared} {K : Frag} {x C f f0 L : Addr} {h₀ : Heap} {m : Str → Option Value} {ox : Obj} {od : Option Obj} {nm : String}
/-- a slot of int that is handed an instance of the text's own declines -/
theorem int_no {n : Int} {t : Tok} {name : String} {g : Int → Int → Sem Fin} {refl : Bool} (hd : ox.data = .plain) (hx : s.heap.get? x = some ox) {Q : Fin → Shared → Prop}
    (h : Q (.done (.ret .notImplemented)) s) : wpAny (model prog w) A (PySem.Builtin.Int.intBinary name g refl ⟨[.int n t, .ref x], []⟩) Q E s := by
  obtain ⟨hp, gg, d, tk, os⟩ := s
  obtain ⟨oc, odd, oda, osl⟩ := ox
  dsimp only at hd
  subst hd
  unfold PySem.Builtin.Int.intBinary
  wp_walk using AutoSeq1.wpAny_loadPart' hx
  exact h
/-- B declines an instance of the text's own -/
def Declines (B : Builtin) : Prop := ∀ (prog : Program) (w : World) (A : Around) (E : Value → Shared → Prop) (s : Shared) (n : Int) (t : Tok) (x : Addr) (ox : Obj) (Q : Fin → Shared → Prop), ox.data = .plain → s.heap.get? x = some ox → Q (.done (.ret .notImplemented)) s → wpAny (model prog w) A (B ⟨[.int n t, .ref x], []⟩) Q E s
theorem decl_bin (name : String) (g : Int → Int → Sem Fin) (r : Bool) : Declines (PySem.Builtin.Int.intBinary name g r) := fun _ _ _ _ _ _ _ _ _ _ hd hx h => int_no hd hx h
theorem decl_fdv : Declines PySem.Builtin.«int.__floordiv__» := fun prog w A E s n t x ox Q hd hx h => by
  obtain ⟨hp, gg, d, tk, os⟩ := s
  obtain ⟨oc, odd, oda, osl⟩ := ox
  dsimp only at hd
  subst hd
  unfold PySem.Builtin.«int.__floordiv__» PySem.Builtin.exactOperandsForPylong
  have k := fun g => int_no (prog := prog) (w := w) (A := A) (E := E) (n := n) (t := t) (name := "__floordiv__") (g := g) (refl := false) (s := ⟨hp, gg, d, tk, os⟩) rfl hx h
  wp_walk using AutoSeq1.wpAny_loadPart' hx
  all_goals first | exact k _ | exact h
/-- n op x, n an int, x an instance of the text's own: int's slot declines, the reflected one of x's class is asked -/
theorem bin_int_own {op : Operator} {n : Int} {t : Tok} {id : String} {B : Builtin} {Q : Value → Shared → Prop} (X : K.In s.heap) (I : InstAt s.heap x ox C od) (hp : ox.data = .plain) (hc : selfFirst K C = true)
    (hs : findIn K (.ref C) (PySem.dunder op.info.2) = some (some (.ref f0))) (hr : findIn K (.ref C) (dunderR op.info.2) = some (some (.ref f))) (hf : isFn K (.ref f) = true) (hm : mroIn K C (.type "int") = some false)
    (hfT : fillsNumberSlot (.type "int") op.info.2 = pure true) (slot : Slot "int" (PySem.dunder op.info.2) id) (entry : entryFor table id = some B) (ha : argsOk id ⟨[.int n t, .ref x], []⟩)
    (hB : Declines B)
    (h : wpAny (model prog w) A (call (.ref f) [.ref x, .int n t]) (PySem.W.CmpBack Q) E s) : wpAny (model prog w) A (binaryOp op (.int n t) (.ref x)) Q E s := by
  obtain ⟨cd, rest, hcd, hmro⟩ := ksp_first hc
  rcases hi : op.info with ⟨sym, nm'⟩
  rw [hi] at hs hr slot hfT
  dsimp only at hs hr slot hfT
  have one := ksp_try X I hr hf h
  have two : wpAny (model prog w) A (tryMethod (.int n t) (PySem.dunder nm') (.ref x)) (fun r s' => r = none ∧ s' = s) E s :=
    wpAny_tryMethod_declines (typeIs_int s n t) slot (wpAny_call_entry slot (typeIs_int s n t) entry (hB _ _ _ _ _ _ _ _ _ _ hp I.at_ ⟨_, rfl, rfl, rfl, rfl⟩) ha)
  obtain ⟨hh, gg, d, tt, os⟩ := s
  have L1 : Looks (model prog w) hh (typeOf (.int n t)) (.type "int") := Looks.of_pure rfl
  have L2 : Looks (model prog w) hh (typeOf (.ref x)) (.ref C) := I.type
  have L3 : Looks (model prog w) hh (fillsNumberSlot (.type "int") nm') true := Looks.of_pure hfT
  have L4 : Looks (model prog w) hh (fillsNumberSlot (.ref C) nm') true := fills_K X hcd hmro hs
  have L5 : Looks (model prog w) hh (isSubtype (.ref C) (.type "int")) false := looks_mroIn X hm
  have L6 : Looks (model prog w) hh (numberSlotInPython (.type "int") nm') false := Looks.of_pure rfl
  have hne : (Value.type "int" == Value.ref C) = false := Bool.eq_false_iff.mpr fun q => by cases beq_iff_eq.mp q
  simp only [binaryOp, hi]
  refine wpAny_holding (wpAny_bind ?_)
  unfold binaryOp1
  refine wpAny_bind (L1.at (wpAny_bind (L2.at (wpAny_bind (L3.at ?_)))))
  simp only [hne, Bool.false_eq_true, if_false]
  ksp_lk
  refine wpAny_mono two (fun r s' hr' => ?_) fun _ _ e => e
  obtain ⟨rfl, rfl⟩ := hr'
  ksp_lk
  refine wpAny_mono one (fun r s' hr' => ?_) fun _ _ e => e
  obtain ⟨v, rfl, hq⟩ := hr'
  ksp_lk
  exact hq
/-- n ? x for a comparison: int's slot declines, the swapped one of x's class is asked -/
theorem cmp_int_own {op : CmpOp} {n : Int} {t : Tok} {id : String} {B : Builtin} {Q : Value → Shared → Prop} (hu : A.units < cLine) (X : K.In s.heap) (I : InstAt s.heap x ox C od) (hp : ox.data = .plain)
    (hr : findIn K (.ref C) (cmpInfo op).2.2 = some (some (.ref f))) (hf : isFn K (.ref f) = true) (hm : mroIn K C (.type "int") = some false)
    (slot : Slot "int" (cmpInfo op).2.1 id) (entry : entryFor table id = some B) (ha : argsOk id ⟨[.int n t, .ref x], []⟩) (hB : Declines B)
    (h : wpAny (model prog w) A (call (.ref f) [.ref x, .int n t]) (PySem.W.CmpBack Q) E s) : wpAny (model prog w) A (richCompare op (.int n t) (.ref x)) Q E s := by
  have one : wpAny (model prog w) A (tryCompare (.ref x) (cmpInfo op).2.2 (.int n t)) (fun r s' => ∃ v, r = some v ∧ Q v s') E s := by
    unfold tryCompare
    refine wpAny_bind (ifBound_K X I hr hf (wpAny_mono h (fun v s' hv => ?_) fun _ _ e => e))
    cases v <;> first | exact hv.elim | exact wpAny_pure ⟨_, rfl, hv⟩
  have two : wpAny (model prog w) A (tryCompare (.int n t) (cmpInfo op).2.1 (.ref x)) (fun r s' => r = none ∧ s' = s) E s :=
    wpAny_tryCompare_declines (typeIs_int s n t) slot (wpAny_call_entry slot (typeIs_int s n t) entry (hB _ _ _ _ _ _ _ _ _ _ hp I.at_ ⟨_, rfl, rfl, rfl, rfl⟩) ha)
  have ot : oneThing? op (.int n t) (.ref x) = none := rfl
  have hne : (Value.type "int" != Value.ref C) = true := bne_iff_ne.mpr fun q => by cases q
  unfold richCompare
  simp only [ot]
  refine wpAny_holding (wpAny_bind (wpAny_cRoomFor hu ?_))
  refine wpAny_bind ((Looks.of_pure rfl : Looks (model prog w) s.heap (typeOf (.int n t)) (.type "int")).here (wpAny_bind (I.type.here ?_)))
  simp only [hne, if_true]
  refine wpAny_bind ((looks_mroIn X hm).here ?_)
  simp only [Bool.false_eq_true, if_false]
  refine wpAny_bind (wpAny_mono two (fun r s' z => ?_) fun _ _ e => e)
  obtain ⟨rfl, rfl⟩ := z
  simp only [Bool.not_false, if_true]
  refine wpAny_bind (wpAny_mono one (fun r s' z => ?_) fun _ _ e => e)
  obtain ⟨v, rfl, hq⟩ := z
  exact wpAny_pure hq
end
/-! ### readings over the layer -/
section
variable {X : Cx} {CX : CXT} {k j : Nat} {C : Addr} {cn m : Str} {ps : List Str} {sp : Sp} {E : XK}
theorem back_of {pins : List (Addr × Obj)} {σ : L2.St} {Q : VK} {u : Value} {s' : Shared} (h : EP X pins σ Q u s') : PySem.W.CmpBack (EP X pins σ Q) u s' := by
  obtain ⟨v, H', I, r, q⟩ := id h
  cases v with
  | non => cases (show u = Value.none from r); exact h
  | bl b => cases (show u = Value.bool b from r); exact h
  | int i => obtain ⟨t, e⟩ := (show ∃ t, u = Value.int i t from r); cases e; exact h
  | str z => obtain ⟨t, e⟩ := (show ∃ t, u = Value.str z t from r); cases e; exact h
  | byt z => obtain ⟨t, e⟩ := (show ∃ t, u = Value.bytes z t from r); cases e; exact h
  | flt z => obtain ⟨t, e⟩ := (show ∃ t, u = Value.float z t from r); cases e; exact h
  | ref a => cases (show u = Value.ref a from r); exact h
  | ty n => cases (show u = Value.type n from r); exact h
/-- a method of the text's own asked by the machine, at the running body's own depth -/
theorem run_own {f : Addr} {fd : FuncData} {pins : List (Addr × Obj)} {σ : L2.St} {H : Hp} {s : Shared} {Q : VK} {us : List Value} {vs : List V} (F : FnOk X.prog X.w X.K X.mg X.base CX k f fd ps sp) (hr : Room k X.A) (hb : L2.Binds X.K fd ps []) (hx : Passes CX X E)
    (I : L2.Inv X pins σ H s) (r : Vals vs us) (h : sp vs H Q E) : wpAny (model X.prog X.w) X.A (call (.ref f) us) (PySem.W.CmpBack (EP X pins σ Q)) X.xe s :=
  wpAny_mono (run_fn F hr hb .nil hx I r (by rw [List.append_nil]; exact h)) (fun _ _ z => back_of z) fun _ _ z => z
/-- o op p, both of the class at C -/
def rOO (C : Addr) (sp : Sp) (E : XK) : R2 := fun x y H Q => ∃ a b dx dy fs gs, x = .ref a ∧ y = .ref b ∧ H a = some (.ins C dx fs) ∧ H b = some (.ins C dy gs) ∧ sp [x, y] H Q E
/-- o op n, n an int -/
def rOI (C : Addr) (sp : Sp) (E : XK) : R2 := fun x y H Q => ∃ a n dx fs, x = .ref a ∧ y = .int n ∧ H a = some (.ins C dx fs) ∧ sp [x, y] H Q E
/-- n op o, n an int: the reflected method -/
def rIO (C : Addr) (sp : Sp) (E : XK) : R2 := fun x y H Q => ∃ n b dx fs, x = .int n ∧ y = .ref b ∧ H b = some (.ins C dx fs) ∧ sp [y, x] H Q E
theorem op_oo {op : Operator} (hd : PySem.dunder op.info.2 = m) (M : Meth X.K C m (He.fAd X.K (cn, some m))) (hc : PySem.W.selfFirst X.K C = true) (O : OkD X.prog X.w X.K X.mg X.base CX k (cn, some m) ps [] sp) (hr : Room j X.A) (hj : k ≤ j) (hx : Passes CX X E) : OpR X (binaryOp op) (rOO C sp E) := by
  obtain ⟨fd, ds, F, b, v⟩ := O.ex
  cases v
  intro pins s σ H x y v u Q I rx ry h
  obtain ⟨a, b', dx, dy, fs, gs, rfl, rfl, ha, hb, hsp⟩ := h
  cases rx
  cases ry
  obtain ⟨mA, J, _⟩ := ins_get I.hok ha
  obtain ⟨mB, J', _⟩ := ins_get I.hok hb
  obtain ⟨od, J, _⟩ := J.look
  obtain ⟨od', J', _⟩ := J'.look
  obtain ⟨mm, hF⟩ := I.fr
  exact PySem.W.binop_K hF I.ok.mod.kin J J'.type hc (by rw [hd]; exact M.at_) M.fn (run_own (vs := [V.ref a, V.ref b']) F (hr.mono hj) b hx I (.cons rfl (.cons rfl .nil)) hsp)
theorem op_oi {op : Operator} {fo ro rc : Option Value} (hd : PySem.dunder op.info.2 = m) (M : Meth X.K C m (He.fAd X.K (cn, some m))) (hc : PySem.W.selfFirst X.K C = true) (h2 : PySem.W.findIn X.K (.ref C) (dunderR op.info.2) = some rc) (hp : rc = none ∨ ∃ g : Addr, rc = some (.ref g))
    (h3 : PySem.W.findIn X.K (.type "int") (PySem.dunder op.info.2) = some fo) (h4 : PySem.W.findIn X.K (.type "int") (dunderR op.info.2) = some ro) (h5 : PySem.W.subIn X.K (.type "int") (.ref C) = some false)
    (O : OkD X.prog X.w X.K X.mg X.base CX k (cn, some m) ps [] sp) (hr : Room j X.A) (hj : k ≤ j) (hx : Passes CX X E) : OpR X (binaryOp op) (rOI C sp E) := by
  obtain ⟨fd, ds, F, b, v⟩ := O.ex
  cases v
  intro pins s σ H x y v u Q I rx ry h
  obtain ⟨a, n, dx, fs, rfl, rfl, ha, hsp⟩ := h
  cases rx
  obtain ⟨t, rfl⟩ := ry
  obtain ⟨mA, J, _⟩ := ins_get I.hok ha
  obtain ⟨od, J, _⟩ := J.look
  obtain ⟨mm, hF⟩ := I.fr
  exact PySem.W.ksp_binT hF I.ok.mod.kin J rfl hc (by rw [hd]; exact M.at_) M.fn h2 hp h3 h4 h5 (run_own (vs := [V.ref a, V.int n]) F (hr.mono hj) b hx I (.cons rfl (.cons ⟨t, rfl⟩ .nil)) hsp)
theorem op_io {op : Operator} {f0 : Addr} {id : String} {B : Builtin} (hd : dunderR op.info.2 = m) (M : Meth X.K C m (He.fAd X.K (cn, some m))) (hc : PySem.W.selfFirst X.K C = true) (h2 : PySem.W.findIn X.K (.ref C) (PySem.dunder op.info.2) = some (some (.ref f0))) (hm : PySem.W.mroIn X.K C (.type "int") = some false)
    (hfT : fillsNumberSlot (.type "int") op.info.2 = pure true) (slot : Slot "int" (PySem.dunder op.info.2) id) (entry : entryFor table id = some B) (ha : ∀ a b, argsOk id ⟨[a, b], []⟩) (hB : Declines B)
    (O : OkD X.prog X.w X.K X.mg X.base CX k (cn, some m) ps [] sp) (hr : Room j X.A) (hj : k ≤ j) (hx : Passes CX X E) : OpR X (binaryOp op) (rIO C sp E) := by
  obtain ⟨fd, ds, F, b, v⟩ := O.ex
  cases v
  intro pins s σ H x y v u Q I rx ry h
  obtain ⟨n, b', dx, fs, rfl, rfl, hb, hsp⟩ := h
  obtain ⟨t, rfl⟩ := rx
  cases ry
  obtain ⟨mA, J, _⟩ := ins_get I.hok hb
  obtain ⟨od, J, _⟩ := J.look
  exact bin_int_own I.kIn J rfl hc h2 (by rw [hd]; exact M.at_) M.fn hm hfT slot entry (ha _ _) hB (run_own (vs := [V.ref b', V.int n]) F (hr.mono hj) b hx I (.cons rfl (.cons ⟨t, rfl⟩ .nil)) hsp)
/-- -o -/
def rUO (C : Addr) (sp : Sp) (E : XK) : V → Hp → VK → Prop := fun x H Q => ∃ a dx fs, x = .ref a ∧ H a = some (.ins C dx fs) ∧ sp [x] H Q E
theorem un_negO (M : Meth X.K C "__neg__" (He.fAd X.K (cn, some "__neg__"))) (O : OkD X.prog X.w X.K X.mg X.base CX k (cn, some "__neg__") ps [] sp) (hr : Room j X.A) (hj : k ≤ j) (hx : Passes CX X E) : UnR X (unaryOp .USub) (rUO C sp E) := by
  obtain ⟨fd, ds, F, b, v⟩ := O.ex
  cases v
  intro pins s σ H x v Q I rx h
  obtain ⟨a, dx, fs, rfl, ha, hsp⟩ := h
  cases rx
  obtain ⟨mA, J, _⟩ := ins_get I.hok ha
  obtain ⟨od, J, _⟩ := J.look
  obtain ⟨mm, hF⟩ := I.fr
  exact PySem.W.ksp_neg hF I.ok.mod.kin J M.at_ M.fn (run_fn (vs := [V.ref a]) F (hr.mono hj) b .nil hx I (.cons rfl .nil) hsp)
/-- abs(o) -/
def rAbsO (C : Addr) (sp : Sp) : List V → Hp → VK → Prop := fun xs H Q => ∃ a dx fs, xs = [.ref a] ∧ H a = some (.ins C dx fs) ∧ sp xs H Q fun _ _ _ => False
theorem call_absO (M : Meth X.K C "__abs__" (He.fAd X.K (cn, some "__abs__"))) (O : OkD X.prog X.w X.K X.mg X.base CX0 k (cn, some "__abs__") ps [] sp) (hr : Room j X.A) (hj : k + 2 ≤ j) : CallR X (.builtin "abs") (rAbsO C sp) := by
  obtain ⟨fd, ds, F, b, v⟩ := O.ex
  cases v
  intro pins s σ H xs us Q I r h
  obtain ⟨a, dx, fs, rfl, ha, hsp⟩ := h
  obtain ⟨u, rfl, ru⟩ : ∃ u, us = [u] ∧ RelV (.ref a) u := by
    cases r with
    | cons p q => cases q; exact ⟨_, rfl, p⟩
  cases ru
  obtain ⟨mA, J, _⟩ := ins_get I.hok ha
  obtain ⟨od, J, _⟩ := J.look
  have hr2 : Room (k + 1) X.A.in1 := (hr.mono hj).in1
  have hr3 : Room k X.A.in1 := hr2.mono (by omega)
  have hl := F.len _ _ _ _ hsp
  have hb := b s [.ref a] I.kIn (by simpa using hl)
  simp only [List.append_nil] at hb
  refine PySem.Calls.call_function_entry PyProof.Rows.kind_abs PyProof.Rows.plain_abs PyProof.Rows.entry_abs (PyProof.Rows.args_abs _) ?_
  unfold PySem.Builtin.«abs»
  refine wpAny_bind (wpAny_pure ?_)
  refine wpAny_bind (m := callSpecial? (.ref a) (Str.ofString "__abs__")) (PySem.W.special_fn I.kIn J M.at_ (beq_iff_eq.mp M.fn) ?_)
  refine wpAny_call (codeAny_mono (F.run X.A.in1 X.stack s H ⟨[.ref a], []⟩ [.ref a] [.ref a] _ _ hr3 I.env0.in1 hb (.cons rfl .nil) hsp) fun r s' hq => ?_)
  cases r with
  | error e => exact hq.elim
  | ok fl =>
    cases fl with
    | ret w => exact wpAny_pure ⟨_, rfl, I.after hq⟩
    | next => exact False.elim hq
    | brk => exact False.elim hq
    | cont => exact False.elim hq
/-- comparisons -/
theorem cmp_oo {op : CmpOp} (hd : (cmpInfo op).2.1 = m) (hop : compareOp op = richCompare op) (M : Meth X.K C m (He.fAd X.K (cn, some m))) (O : OkD X.prog X.w X.K X.mg X.base CX k (cn, some m) ps [] sp) (hr : Room j X.A) (hj : k ≤ j) (hx : Passes CX X E) : OpR X (compareOp op) (rOO C sp E) := by
  obtain ⟨fd, ds, F, b, v⟩ := O.ex
  cases v
  intro pins s σ H x y v u Q I rx ry h
  obtain ⟨a, b', dx, dy, fs, gs, rfl, rfl, ha, hb, hsp⟩ := h
  cases rx
  cases ry
  obtain ⟨mA, J, _⟩ := ins_get I.hok ha
  obtain ⟨mB, J', _⟩ := ins_get I.hok hb
  obtain ⟨od, J, _⟩ := J.look
  obtain ⟨od', J', _⟩ := J'.look
  obtain ⟨mm, hF⟩ := I.fr
  rw [hop]
  exact PySem.W.cmp_K (tb := .ref C) hr.units0 hF I.ok.mod.kin J J'.type (by simp [PySem.W.notFirst]) (by rw [hd]; exact M.at_) M.fn (run_own (vs := [V.ref a, V.ref b']) F (hr.mono hj) b hx I (.cons rfl (.cons rfl .nil)) hsp)
theorem cmp_oi {op : CmpOp} (hd : (cmpInfo op).2.1 = m) (hop : compareOp op = richCompare op) (M : Meth X.K C m (He.fAd X.K (cn, some m))) (h5 : PySem.W.subIn X.K (.type "int") (.ref C) = some false)
    (O : OkD X.prog X.w X.K X.mg X.base CX k (cn, some m) ps [] sp) (hr : Room j X.A) (hj : k ≤ j) (hx : Passes CX X E) : OpR X (compareOp op) (rOI C sp E) := by
  obtain ⟨fd, ds, F, b, v⟩ := O.ex
  cases v
  intro pins s σ H x y v u Q I rx ry h
  obtain ⟨a, n, dx, fs, rfl, rfl, ha, hsp⟩ := h
  cases rx
  obtain ⟨t, rfl⟩ := ry
  obtain ⟨mA, J, _⟩ := ins_get I.hok ha
  obtain ⟨od, J, _⟩ := J.look
  obtain ⟨mm, hF⟩ := I.fr
  rw [hop]
  exact PySem.W.cmp_K (tb := .type "int") hr.units0 hF I.ok.mod.kin J (PySem.W.Looks.of_pure rfl) (by unfold PySem.W.notFirst; rw [h5]; simp) (by rw [hd]; exact M.at_) M.fn (run_own (vs := [V.ref a, V.int n]) F (hr.mono hj) b hx I (.cons rfl (.cons ⟨t, rfl⟩ .nil)) hsp)
theorem cmp_io {op : CmpOp} {id : String} {B : Builtin} (hd : (cmpInfo op).2.2 = m) (hop : compareOp op = richCompare op) (M : Meth X.K C m (He.fAd X.K (cn, some m))) (hm : PySem.W.mroIn X.K C (.type "int") = some false)
    (slot : Slot "int" (cmpInfo op).2.1 id) (entry : entryFor table id = some B) (ha : ∀ a b, argsOk id ⟨[a, b], []⟩) (hB : Declines B)
    (O : OkD X.prog X.w X.K X.mg X.base CX k (cn, some m) ps [] sp) (hr : Room j X.A) (hj : k ≤ j) (hx : Passes CX X E) : OpR X (compareOp op) (rIO C sp E) := by
  obtain ⟨fd, ds, F, b, v⟩ := O.ex
  cases v
  intro pins s σ H x y v u Q I rx ry h
  obtain ⟨n, b', dx, fs, rfl, rfl, hb, hsp⟩ := h
  obtain ⟨t, rfl⟩ := rx
  cases ry
  obtain ⟨mA, J, _⟩ := ins_get I.hok hb
  obtain ⟨od, J, _⟩ := J.look
  rw [hop]
  exact cmp_int_own hr.units0 I.kIn J rfl (by rw [hd]; exact M.at_) M.fn hm slot entry (ha _ _) hB (run_own (vs := [V.ref b', V.int n]) F (hr.mono hj) b hx I (.cons rfl (.cons ⟨t, rfl⟩ .nil)) hsp)
end
end Vf

set_option Elab.async false
set_option linter.all false
set_option maxRecDepth 100000
set_option maxHeartbeats 2000000
namespace Vf
open PySem PySem.Spec PyProof.Rows L2
section
variable {X : Cx} {C : Addr} {bmB : List Value} {B newId initId : String}
/-- X(), X an error of the text's own without an __init__ -/
theorem pmk_own0 {x : Str} {p pos : Pos} (F : ExcBaseFacts B newId initId bmB) (q : PySem.W.excIn X.K C bmB newId = true) (gC : X.mg x = some (.ref C)) (kC : PySem.W.keepIn X.K (.ref C) = true) (r : Raises X (.ref C)) (hg : Gl X x)
    (hdb : (x == ("__debug__" : Str)) = false := by decide) : PMk X (.Call (.Name x p) [] [] pos) (fun _ H Q => Q (.ref C) none H) := by
  intro pins s σ H Q I h
  refine wpAny_Call_Name_kw (ld_glob I hg gC ?_ hdb)
  refine PySem.W.callWith_K0 I.kIn kC ?_
  obtain ⟨_, _, _, _, _, _, _, _, _, _, _, _, _, _, _, _, _, hC, hN, hni, T⟩ := exc_obj I.kIn q
  show wpAny _ _ (call (.ref C) []) _ _ _
  exact wpAny_call_exc_subT F T hC hN hni (fun h' e hm => L2.mk_of I hm r h (I.hok.gone hm.new)) (Nat.zero_le _)
end
theorem c_raise0 {X : Cx} {x : Str} {p pos pos2 : Pos} {W : WX} (c : (He.Fa.exc x).ok X.K = true) (hm : X.mg x = some (.ref (He.ga X.K x))) (tk : Takes X W) (hc : X.calm = true := by rfl) (hg : Gl X x := by rfl) (hdb : (x == ("__debug__" : Str)) = false := by decide) :
    PS X (.Raise (some (.Call (.Name x p) [] [] pos)) none pos2) (fun _ σ H => W (.ref (He.ga X.K x)) none σ H) := by
  obtain ⟨h1, h2, h3, h4⟩ := He.exc_ok c
  exact ps_raise hc tk (pmk_own0 PySem.F.excBase_ValueError h1 hm h2 (raises_own h3 h4) hg hdb)
theorem passX {X : Cx} {E : XK} (tk : Takes X (fun cls d _ H => E cls d H)) : Passes (L2.CX X.prog X.w) X E := passes_call tk fun _ _ _ _ h => h
theorem opr_or {X : Cx} {f : Value → Value → Sem Value} {r1 r2 : R2} (h1 : OpR X f r1) (h2 : OpR X f r2) : OpR X f (fun x y H Q => r1 x y H Q ∨ r2 x y H Q) := fun pins s σ H x y v u Q I rx ry h => by
  rcases h with h | h
  · exact h1 pins s σ H x y v u Q I rx ry h
  · exact h2 pins s σ H x y v u Q I rx ry h
section
variable (K : PySem.W.Frag)
theorem int_add : PySem.W.findIn K (.type "int") (PySem.dunder "add") = some (some (.builtin "int.__add__")) := by kernel_rfl
theorem int_sub : PySem.W.findIn K (.type "int") (PySem.dunder "sub") = some (some (.builtin "int.__sub__")) := by kernel_rfl
theorem int_mul : PySem.W.findIn K (.type "int") (PySem.dunder "mul") = some (some (.builtin "int.__mul__")) := by kernel_rfl
theorem int_fdv : PySem.W.findIn K (.type "int") (PySem.dunder "floordiv") = some (some (.builtin "int.__floordiv__")) := by kernel_rfl
theorem int_radd : PySem.W.findIn K (.type "int") (dunderR "add") = some (some (.builtin "int.__radd__")) := by kernel_rfl
theorem int_rsub : PySem.W.findIn K (.type "int") (dunderR "sub") = some (some (.builtin "int.__rsub__")) := by kernel_rfl
theorem int_rmul : PySem.W.findIn K (.type "int") (dunderR "mul") = some (some (.builtin "int.__rmul__")) := by kernel_rfl
theorem int_rfdv : PySem.W.findIn K (.type "int") (dunderR "floordiv") = some (some (.builtin "int.__rfloordiv__")) := by kernel_rfl
end
end Vf

set_option Elab.async false
set_option linter.all false
set_option maxRecDepth 100000
set_option maxHeartbeats 2000000
namespace Vf
open PySem PySem.Spec PyProof.Rows L2
section
open PySem.W PySem.Calls
variable {prog : Program} {w : World} {A : Around} {E : Value → Shared → Prop} {s : Shared} {K : Frag} {x C f L : Addr} {h₀ : Heap} {m : Str → Option Value} {ox : Obj} {od : Option Obj}
/-- x, an instance of the text's own, is of no built-in type T -/
theorem inst_not {T : String} {Q : Bool → Shared → Prop} (X : K.In s.heap) (I : InstAt s.heap x ox C od) (hm : mroIn K C (.type T) = some false) (h : Q false s) : wpAny (model prog w) A (isInstance (.ref x) (.type T)) Q E s := by
  unfold isInstance
  exact wpAny_bind (I.type.here ((looks_mroIn X hm).here h))
theorem eq_no_none {Q : Fin → Shared → Prop} (h : Q (.done (.ret .notImplemented)) s) : wpAny (model prog w) A (PySem.Builtin.«NoneType.__eq__» ⟨[.none, .ref x], []⟩) Q E s := by
  unfold PySem.Builtin.«NoneType.__eq__»
  wp_walk
  exact h
theorem eq_no_int {n : Value} (hn : (∃ b, n = .bool b) ∨ ∃ i t, n = .int i t) (hd : ox.data = .plain) (hx : s.heap.get? x = some ox) {Q : Fin → Shared → Prop} (h : Q (.done (.ret .notImplemented)) s) : wpAny (model prog w) A (PySem.Builtin.«int.__eq__» ⟨[n, .ref x], []⟩) Q E s := by
  obtain ⟨hp, gg, d, tk, os⟩ := s
  obtain ⟨oc, odd, oda, osl⟩ := ox
  dsimp only at hd
  subst hd
  rcases hn with ⟨b, rfl⟩ | ⟨i, t, rfl⟩
  · wp_walk using AutoSeq1.wpAny_loadPart' hx
    exact h
  · wp_walk using AutoSeq1.wpAny_loadPart' hx
    exact h
theorem eq_no_str {z : Str} {t : Tok} (hd : ox.data = .plain) (hx : s.heap.get? x = some ox) {Q : Fin → Shared → Prop} (h : Q (.done (.ret .notImplemented)) s) : wpAny (model prog w) A (PySem.Builtin.«str.__eq__» ⟨[.str z t, .ref x], []⟩) Q E s := by
  obtain ⟨hp, gg, d, tk, os⟩ := s
  obtain ⟨oc, odd, oda, osl⟩ := ox
  dsimp only at hd
  subst hd
  wp_walk using AutoSeq1.wpAny_loadPart' hx
  exact h
theorem eq_no_tup {a : Addr} (X : K.In s.heap) (I : InstAt s.heap x ox C od) (hm : mroIn K C (.type "tuple") = some false) {Q : Fin → Shared → Prop} (h : Q (.done (.ret .notImplemented)) s) : wpAny (model prog w) A (PySem.Builtin.«tuple.__eq__» ⟨[.ref a, .ref x], []⟩) Q E s := by
  wp_walk using inst_not X I hm
  exact h
theorem eq_no_lst {a : Addr} (X : K.In s.heap) (I : InstAt s.heap x ox C od) (hm : mroIn K C (.type "list") = some false) {Q : Fin → Shared → Prop} (h : Q (.done (.ret .notImplemented)) s) : wpAny (model prog w) A (PySem.Builtin.«list.__eq__» ⟨[.ref a, .ref x], []⟩) Q E s := by
  wp_walk using inst_not X I hm
  exact h
theorem eq_no_dic {a : Addr} {oa : Obj} (ha : s.heap.get? a = some oa) (X : K.In s.heap) (I : InstAt s.heap x ox C od) (hm : mroIn K C (.type "dict") = some false) {Q : Fin → Shared → Prop} (h : Q (.done (.ret .notImplemented)) s) : wpAny (model prog w) A (PySem.Builtin.«dict.__eq__» ⟨[.ref a, .ref x], []⟩) Q E s := by
  wp_walk using inst_not X I hm
  exact h
/-- v == x: v's slot declines, x's own is asked -/
theorem eq_any_own {v : Value} {T id : String} {B : Builtin} {Q : Value → Shared → Prop} (hT : s.TypeIs v T) (hu : A.units < cLine) (X : K.In s.heap) (I : InstAt s.heap x ox C od)
    (hr : findIn K (.ref C) "__eq__" = some (some (.ref f))) (hf : isFn K (.ref f) = true) (hm : mroIn K C (.type T) = some false)
    (slot : Slot T (cmpInfo .Eq).2.1 id) (entry : entryFor table id = some B) (ha : argsOk id ⟨[v, .ref x], []⟩) (hB : ∀ Q : Fin → Shared → Prop, Q (.done (.ret .notImplemented)) s → wpAny (model prog w) A.in1 (B ⟨[v, .ref x], []⟩) Q E s)
    (h : wpAny (model prog w) A (call (.ref f) [.ref x, v]) (PySem.W.CmpBack Q) E s) : wpAny (model prog w) A (richCompare .Eq v (.ref x)) Q E s := by
  have one : wpAny (model prog w) A (tryCompare (.ref x) "__eq__" v) (fun r s' => ∃ z, r = some z ∧ Q z s') E s := by
    unfold tryCompare
    refine wpAny_bind (ifBound_K X I hr hf (wpAny_mono h (fun z s' hv => ?_) fun _ _ e => e))
    cases z <;> first | exact hv.elim | exact wpAny_pure ⟨_, rfl, hv⟩
  have two : wpAny (model prog w) A (tryCompare v (cmpInfo .Eq).2.1 (.ref x)) (fun r s' => r = none ∧ s' = s) E s :=
    wpAny_tryCompare_declines hT slot (wpAny_call_entry slot hT entry (hB _ ⟨_, rfl, rfl, rfl, rfl⟩) ha)
  have hne : (Value.type T != Value.ref C) = true := bne_iff_ne.mpr fun q => by cases q
  unfold richCompare
  simp only [hT.oneThing_none]
  refine wpAny_holding (wpAny_bind (wpAny_cRoomFor hu ?_))
  refine wpAny_bind (wpAny_typeOf hT (wpAny_bind (I.type.here ?_)))
  simp only [hne, if_true]
  refine wpAny_bind ((looks_mroIn X hm).here ?_)
  simp only [Bool.false_eq_true, if_false]
  refine wpAny_bind (wpAny_mono two (fun r s' z => ?_) fun _ _ e => e)
  obtain ⟨rfl, rfl⟩ := z
  simp only [Bool.not_false, if_true]
  refine wpAny_bind (wpAny_mono one (fun r s' z => ?_) fun _ _ e => e)
  obtain ⟨z, rfl, hq⟩ := z
  exact wpAny_pure hq
theorem sub_not {n : String} {l : List Value} (e : fastBuiltinMro n = some l) (h : ∀ a, l.contains (.ref a) = false) : subIn K (.type n) (.ref C) = some false := by
  show (fastBuiltinMro n).map (·.contains (.ref C)) = some false
  rw [e, Option.map_some, h]
end
theorem looks_ty {M : Model} {s : Shared} {u : Value} {n : String} (h : s.TypeIs u n) : PySem.W.Looks M s.heap (typeOf u) (.type n) := fun A Q E s' k q => by
  refine wpAny_typeOf (T := n) ?_ q
  cases u with
  | ref a =>
    obtain ⟨o, h1, h2⟩ := h
    exact ⟨o, k _ _ h1, h2⟩
  | _ => exact h
/-! ### odd values beside an own object -/
def oddK : List String := ["bool", "NoneType", "str", "tuple", "list", "dict"]
section
variable {X : Cx} {CX : CXT} {k j : Nat} {C : Addr} {cn m : Str} {ps : List Str} {sp : Sp} {E : XK}
/-- a built-in type none of our classes is over, nor they over it -/
theorem odd_is {pins : List (Addr × Obj)} {s : Shared} {σ : L2.St} {H : Hp} {x : V} {u : Value} (I : L2.Inv X pins σ H s) (o : Odd H x) (r : RelV x u) :
    ∃ n ∈ oddK, s.TypeIs u n := by
  cases o with
  | bl b => cases r; exact ⟨"bool", by simp [oddK], rfl⟩
  | non => cases r; exact ⟨"NoneType", by simp [oddK], rfl⟩
  | str z => obtain ⟨t, rfl⟩ := r; exact ⟨"str", by simp [oddK], rfl⟩
  | tup h =>
    cases r
    obtain ⟨_, _, _, o, h1, h2, _⟩ := (show ObjOk X.prog X.w H s.heap _ (.tup _) from I.hok _ _ h)
    exact ⟨"tuple", by simp [oddK], o, h1, h2⟩
  | lst h =>
    cases r
    obtain ⟨_, _, n, _, h1⟩ := (show ObjOk X.prog X.w H s.heap _ (.lst _) from I.hok _ _ h)
    exact ⟨"list", by simp [oddK], _, h1, rfl⟩
  | dic h =>
    cases r
    obtain ⟨_, _, vs, _, o, es, ep, h1, h2, _⟩ := (show ObjOk X.prog X.w H s.heap _ (.dK _) from I.hok _ _ h)
    exact ⟨"dict", by simp [oddK], o, h1, h2.1⟩
theorem odd_first {n : String} (h : n ∈ oddK) : PySem.W.subIn X.K (.type n) (.ref C) = some false := by
  simp only [oddK, List.mem_cons, List.not_mem_nil, or_false] at h
  rcases h with rfl | rfl | rfl | rfl | rfl | rfl
  · exact sub_not (l := [.type "bool", .type "int", .type "object"]) (by decide +kernel) fun a => by simp
  · exact sub_not (l := [.type "NoneType", .type "object"]) (by decide +kernel) fun a => by simp
  · exact sub_not (l := [.type "str", .type "object"]) (by decide +kernel) fun a => by simp
  · exact sub_not (l := [.type "tuple", .type "object"]) (by decide +kernel) fun a => by simp
  · exact sub_not (l := [.type "list", .type "object"]) (by decide +kernel) fun a => by simp
  · exact sub_not (l := [.type "dict", .type "object"]) (by decide +kernel) fun a => by simp
/-- a method of the text's own asked by the machine, somewhere below the running body -/
theorem run_ownA {A : Around} {f : Addr} {fd : FuncData} {pins : List (Addr × Obj)} {σ : L2.St} {H : Hp} {s : Shared} {Q : VK} {us : List Value} {vs : List V} (F : FnOk X.prog X.w X.K X.mg X.base CX k f fd ps sp) (sb : Sub X k A) (hb : L2.Binds X.K fd ps []) (hx : Passes CX X E)
    (I : L2.Inv X pins σ H s) (r : Vals vs us) (h : sp vs H Q E) : wpAny (model X.prog X.w) A (call (.ref f) us) (PySem.W.CmpBack (EP X pins σ Q)) X.xe s := by
  have e0 : Env0 X.prog X.w X.K X.mg X.base A X.stack s H := by
    have e := I.env0
    exact ⟨by rw [sb.fr]; exact e.frames, e.mod, e.bs, e.bsz, e.funs, e.frf, e.hok, e.bare⟩
  have hl := F.len _ _ _ _ h
  refine wpAny_call (codeAny_mono (F.run A X.stack s H ⟨us, []⟩ us vs _ E sb.room e0 (by
    have := hb s us I.kIn (by rw [List.append_nil, ← r.length, hl])
    simpa using this) r h) fun r s' hq => ?_)
  cases r with
  | error e => exact hx pins σ H s e s' I hq
  | ok fl =>
    cases fl with
    | ret w => exact back_of (I.after hq)
    | next => exact False.elim hq
    | brk => exact False.elim hq
    | cont => exact False.elim hq
/-- x == y, x odd, y of the class at C: its own == is asked -/
theorem rc_odd {A : Around} {pins : List (Addr × Obj)} {s : Shared} {σ : L2.St} {H : Hp} {x : V} {u : Value} {b dx : Addr} {fs : List (Str × V)} {Q : VK} (sb : Sub X k A) (M : Meth X.K C "__eq__" (He.fAd X.K (cn, some "__eq__")))
    (hm : ∀ n ∈ oddK, PySem.W.mroIn X.K C (.type n) = some false) (O : OkD X.prog X.w X.K X.mg X.base CX k (cn, some "__eq__") ps [] sp) (hx : Passes CX X E) (I : L2.Inv X pins σ H s) (o : Odd H x) (rx : RelV x u) (hb : H b = some (.ins C dx fs)) (h0 : sp [.ref b, x] H Q E) :
    wpAny (model X.prog X.w) A (richCompare .Eq u (.ref b)) (EP X pins σ Q) X.xe s := by
  obtain ⟨fd, ds, F, bi, v⟩ := O.ex
  cases v
  obtain ⟨mA, J, _⟩ := ins_get I.hok hb
  obtain ⟨od, J, _⟩ := J.look
  have go := run_ownA (vs := [V.ref b, x]) (us := [.ref b, u]) F sb bi hx I (.cons rfl (.cons rx .nil)) h0
  have hu := sb.room.units0
  cases o with
  | bl y =>
    cases rx
    exact eq_any_own (T := "bool") rfl hu I.kIn J M.at_ M.fn (hm _ (by simp [oddK])) PySem.F.slot_bool_eq PySem.F.entry_int_eq (PySem.F.args_int_eq_2 _ _) (fun Q q => eq_no_int (.inl ⟨_, rfl⟩) rfl J.at_ q) go
  | non =>
    cases rx
    exact eq_any_own (T := "NoneType") rfl hu I.kIn J M.at_ M.fn (hm _ (by simp [oddK])) PySem.F.slot_NoneType_eq PySem.F.entry_NoneType_eq (PySem.F.args_NoneType_eq_2 _ _) (fun Q q => eq_no_none q) go
  | str z =>
    obtain ⟨t, rfl⟩ := rx
    exact eq_any_own (T := "str") rfl hu I.kIn J M.at_ M.fn (hm _ (by simp [oddK])) PySem.F.slot_str_eq PySem.F.entry_str_eq (PySem.F.args_str_eq_2 _ _) (fun Q q => eq_no_str rfl J.at_ q) go
  | tup h =>
    cases rx
    obtain ⟨_, _, _, o, h1, h2, _⟩ := (show ObjOk X.prog X.w H s.heap _ (.tup _) from I.hok _ _ h)
    exact eq_any_own (T := "tuple") ⟨o, h1, h2⟩ hu I.kIn J M.at_ M.fn (hm _ (by simp [oddK])) PySem.F.slot_tuple_eq PySem.F.entry_tuple_eq (PySem.F.args_tuple_eq_2 _ _) (fun Q q => eq_no_tup I.kIn J (hm _ (by simp [oddK])) q) go
  | lst h =>
    cases rx
    obtain ⟨_, _, n, _, h1⟩ := (show ObjOk X.prog X.w H s.heap _ (.lst _) from I.hok _ _ h)
    exact eq_any_own (T := "list") ⟨_, h1, rfl⟩ hu I.kIn J M.at_ M.fn (hm _ (by simp [oddK])) PySem.F.slot_list_eq PySem.F.entry_list_eq (PySem.F.args_list_eq_2 _ _) (fun Q q => eq_no_lst I.kIn J (hm _ (by simp [oddK])) q) go
  | dic h =>
    cases rx
    obtain ⟨_, _, vs, _, o, es, ep, h1, h2, _⟩ := (show ObjOk X.prog X.w H s.heap _ (.dK _) from I.hok _ _ h)
    exact eq_any_own (T := "dict") ⟨o, h1, h2.1⟩ hu I.kIn J M.at_ M.fn (hm _ (by simp [oddK])) PySem.F.slot_dict_eq PySem.F.entry_dict_eq (PySem.F.args_dict_eq_2 _ _) (fun Q q => eq_no_dic h1 I.kIn J (hm _ (by simp [oddK])) q) go
/-- odd == o -/
def rDO (C : Addr) (sp : Sp) (E : XK) : R2 := fun x y H Q => ∃ b dx fs, Odd H x ∧ y = .ref b ∧ H b = some (.ins C dx fs) ∧ sp [y, x] H Q E
theorem eq_do (M : Meth X.K C "__eq__" (He.fAd X.K (cn, some "__eq__"))) (hm : ∀ n ∈ oddK, PySem.W.mroIn X.K C (.type n) = some false) (O : OkD X.prog X.w X.K X.mg X.base CX k (cn, some "__eq__") ps [] sp) (hr : Room j X.A) (hj : k ≤ j) (hx : Passes CX X E) : OpR X (compareOp .Eq) (rDO C sp E) := by
  intro pins s σ H x y v u Q I rx ry h
  obtain ⟨b, dx, fs, o, rfl, hb, hsp⟩ := h
  cases ry
  exact rc_odd ⟨hr.mono hj, rfl⟩ M hm O hx I o rx hb hsp
/-- o ? odd -/
def rOD (C : Addr) (sp : Sp) (E : XK) : R2 := fun x y H Q => ∃ a dx fs, x = .ref a ∧ H a = some (.ins C dx fs) ∧ Odd H y ∧ sp [x, y] H Q E
theorem cmp_od {op : CmpOp} (hd : (cmpInfo op).2.1 = m) (hop : compareOp op = richCompare op) (M : Meth X.K C m (He.fAd X.K (cn, some m))) (O : OkD X.prog X.w X.K X.mg X.base CX k (cn, some m) ps [] sp) (hr : Room j X.A) (hj : k ≤ j) (hx : Passes CX X E) : OpR X (compareOp op) (rOD C sp E) := by
  obtain ⟨fd, ds, F, b, v⟩ := O.ex
  cases v
  intro pins s σ H x y v u Q I rx ry h
  obtain ⟨a, dx, fs, rfl, ha, o, hsp⟩ := h
  cases rx
  obtain ⟨mA, J, _⟩ := ins_get I.hok ha
  obtain ⟨od, J, _⟩ := J.look
  obtain ⟨mm, hF⟩ := I.fr
  obtain ⟨n, hn, ht⟩ := odd_is I o ry
  rw [hop]
  exact PySem.W.cmp_K (tb := .type n) hr.units0 hF I.ok.mod.kin J (looks_ty ht) (by unfold PySem.W.notFirst; rw [odd_first hn]; simp) (by rw [hd]; exact M.at_) M.fn (run_own (vs := [V.ref a, y]) F (hr.mono hj) b hx I (.cons rfl (.cons ry .nil)) hsp)
/-! ### x in a list, where == is the text's own -/
/-- == inside a built-in's body: its answer; it only makes objects -/
abbrev Eqb := V → V → Hp → Bool → Prop
def EqB (X : Cx) (n : Nat) (D : Eqb) : Prop :=
  ∀ (A : Around) (pins : List (Addr × Obj)) (s : Shared) (σ : L2.St) (H : Hp) (x y : V) (u v : Value) (b : Bool), Sub X n A → L2.Inv X pins σ H s → RelV x u → RelV y v → D x y H b →
    wpAny (model X.prog X.w) A (eqBool u v) (fun r s' => r = b ∧ ∃ H', L2.Inv X pins σ H' s' ∧ Ext H H') X.xe s
theorem EqB.or {n : Nat} {D D' : Eqb} (h : EqB X n D) (h' : EqB X n D') : EqB X n (fun x y H b => D x y H b ∨ D' x y H b) := fun A pins s σ H x y u v b sb I rx ry d => by
  rcases d with d | d
  · exact h A pins s σ H x y u v b sb I rx ry d
  · exact h' A pins s σ H x y u v b sb I rx ry d
def DOO (C : Addr) (sp : Sp) (E : XK) : Eqb := fun x y H b => ∃ a c dx dy fs gs, x = .ref a ∧ y = .ref c ∧ H a = some (.ins C dx fs) ∧ H c = some (.ins C dy gs) ∧ (a = c → b = true) ∧ sp [x, y] H (fun v H' => v = .bl b ∧ Ext H H') E
def DDO (C : Addr) (sp : Sp) (E : XK) : Eqb := fun x y H b => ∃ c dy gs, Odd H x ∧ y = .ref c ∧ H c = some (.ins C dy gs) ∧ (x = y → b = true) ∧ sp [y, x] H (fun v H' => v = .bl b ∧ Ext H H') E
theorem eqB_of_rc {A : Around} {pins : List (Addr × Obj)} {s : Shared} {σ : L2.St} {H : Hp} {u v : Value} {b : Bool} (hs : (u == v) = true → b = true) (hf : ∀ i t, u ≠ .float i t) (I : L2.Inv X pins σ H s)
    (h : wpAny (model X.prog X.w) A (richCompare .Eq u v) (EP X pins σ (fun v H' => v = .bl b ∧ Ext H H')) X.xe s) : wpAny (model X.prog X.w) A (eqBool u v) (fun r s' => r = b ∧ ∃ H', L2.Inv X pins σ H' s' ∧ Ext H H') X.xe s := by
  unfold eqBool
  refine wpAny_holding ?_
  refine wpAny_ite_split (fun hab => ?_) (fun _ => ?_)
  · refine wpAny_bind (wpAny_rule ?_)
    exact wpAny_pure ⟨(hs hab).symm, H, I, Ext.rfl'⟩
  · have tail : wpAny (model X.prog X.w) A (richCompare .Eq u v >>= truthOfDropped) (fun r s' => r = b ∧ ∃ H', L2.Inv X pins σ H' s' ∧ Ext H H') X.xe s := by
      refine wpAny_bind (wpAny_mono h (fun z s' hz => ?_) fun _ _ x => x)
      obtain ⟨v', H', I', rz, e, ex⟩ := hz
      subst e
      cases rz
      exact wpAny_truthy_bool ⟨rfl, H', I', ex⟩
    cases u with
    | float i t => exact absurd rfl (hf i t)
    | _ => exact tail
theorem eqB_oo {n : Nat} (M : Meth X.K C "__eq__" (He.fAd X.K (cn, some "__eq__"))) (O : OkD X.prog X.w X.K X.mg X.base CX n (cn, some "__eq__") ps [] sp) (hx : Passes CX X E) : EqB X n (DOO C sp E) := by
  obtain ⟨fd, ds, F, bi, v⟩ := O.ex
  cases v
  intro A pins s σ H x y u v b sb I rx ry d
  obtain ⟨a, c, dx, dy, fs, gs, rfl, rfl, ha, hc, he, hsp⟩ := d
  cases rx
  cases ry
  obtain ⟨mA, J, _⟩ := ins_get I.hok ha
  obtain ⟨mB, J', _⟩ := ins_get I.hok hc
  obtain ⟨od, J, _⟩ := J.look
  obtain ⟨od', J', _⟩ := J'.look
  obtain ⟨mm, hF⟩ := I.fr
  refine eqB_of_rc (fun h => he (by have := eq_of_beq h; injection this)) (fun _ _ z => nomatch z) I ?_
  exact PySem.W.cmp_K (op := .Eq) (tb := .ref C) sb.room.units0 hF I.ok.mod.kin J J'.type (by simp [PySem.W.notFirst]) M.at_ M.fn (run_ownA (vs := [V.ref a, V.ref c]) F sb bi hx I (.cons rfl (.cons rfl .nil)) hsp)
theorem eqB_do {n : Nat} (M : Meth X.K C "__eq__" (He.fAd X.K (cn, some "__eq__"))) (hm : ∀ n ∈ oddK, PySem.W.mroIn X.K C (.type n) = some false) (O : OkD X.prog X.w X.K X.mg X.base CX n (cn, some "__eq__") ps [] sp) (hx : Passes CX X E) : EqB X n (DDO C sp E) := by
  intro A pins s σ H x y u v b sb I rx ry d
  obtain ⟨c, dy, gs, o, rfl, hc, he, hsp⟩ := d
  cases ry
  refine eqB_of_rc (fun h => he ?_) (fun i t z => ?_) I (rc_odd sb M hm O hx I o rx hc hsp)
  · have := eq_of_beq h
    subst this
    cases x with
    | ref a => cases rx; rfl
    | int i => obtain ⟨t, h⟩ := rx; cases h
    | str i => obtain ⟨t, h⟩ := rx; cases h
    | byt i => obtain ⟨t, h⟩ := rx; cases h
    | flt i => obtain ⟨t, h⟩ := rx; cases h
    | _ => cases rx
  · subst z
    cases o with
    | bl => cases rx
    | non => cases rx
    | str => obtain ⟨t, h⟩ := rx; cases h
    | tup => cases rx
    | lst => cases rx
    | dic => cases rx
/-- the loop of list.__contains__; at each turn the list is read anew -/
theorem in_loop {P : Program} {w : World} {A : Around} {R : Result → Shared → Prop} {l : Addr} {N : Nat} {x : Value} (J : Shared → Prop) (e : Nat → Bool)
    (hl : ∀ i s, J s → ∃ (its : List Value) (n : Nat) (dd : Option Addr) (sl : Array (Option Value)), s.heap.get? l = some { cls := .type "list", dict := dd, data := .seq its.toArray n, slots := sl } ∧ its.length = N ∧ ∀ h : i < its.length, wpAny (model P w) A.in1 (eqBool its[i] x) (fun r s' => r = e i ∧ J s') (fun e s' => R (.error e) s') s) (k : Nat) :
    ∀ i : Nat, N - i = k → i ≤ N → ∀ s, J s → (∀ s', J s' → R (.ok (.ret (.bool ((List.range' i k).any e)))) s') →
      wpAny (model P w) A.in1 (Builtin.«list.__contains__.loop» ⟨[.ref l, x, rawInt i], []⟩) (GQ.FinOf P w A R) (fun e s' => R (.error e) s') s := by
  induction k with
  | zero =>
    intro i hk hi s h fin
    obtain ⟨items, n, dd, sl, ho, hn, _⟩ := hl i s h
    have q := fin s h
    obtain ⟨hp, g, d, tk, os⟩ := s
    wp_walk using AutoSeq1.wpAny_loadPart' ho
    have hi : items.toArray[((i : Nat) : Int).toNat]? = none := by simp; omega
    rw [hi]
    wp_walk
    exact q
  | succ k ih =>
    intro i hk hi s h fin
    obtain ⟨items, n, dd, sl, ho, hn, turn⟩ := hl i s h
    have hlt : i < items.length := by omega
    have t := turn hlt
    obtain ⟨hp, g, d, tk, os⟩ := s
    wp_walk using AutoSeq1.wpAny_loadPart' ho
    have hi : items.toArray[((i : Nat) : Int).toNat]? = some items[i] := by simp [hlt]
    rw [hi]
    refine wpAny_bind (wpAny_mono t (fun r s2 q => ?_) fun _ _ z => z)
    obtain ⟨rfl, h2⟩ := q
    rw [List.range'_succ, List.any_cons] at fin
    cases hb : e i with
    | true =>
      rw [hb] at fin
      have q := fin s2 h2
      obtain ⟨hp2, g2, d2, tk2, os2⟩ := s2
      wp_walk
      exact q
    | false =>
      rw [hb] at fin
      have hc : ((i : Int) + 1) = ((i + 1 : Nat) : Int) := by push_cast; rfl
      have go := ih (i + 1) (by omega) (by omega) s2 h2 (fun s' h' => by simpa using fin s' h')
      obtain ⟨hp2, g2, d2, tk2, os2⟩ := s2
      wp_walk
      rw [hc]
      exact ⟨plainId_quiet MeetsSeq.plain_contains_loop _, codeAny_builtin MeetsSeq.entry_contains_loop (by
        rw [Around.under_plainId MeetsSeq.plain_contains_loop _]
        exact go)⟩
/-- x in the list at y: item by item D says how they compare -/
def rInB (K : PySem.W.Frag) (neg : Bool) (D : Eqb) : R2 := fun x y H Q => ∃ (p : Addr) (xs : List V) (bs : List Bool), y = .ref p ∧ SqL K H p xs ∧ Paired (fun z b => ∀ H', Ext H H' → D z x H' b) xs bs ∧ ∀ H', Ext H H' → Q (.bl (if neg then !bs.any id else bs.any id)) H'
theorem any_range (bs : List Bool) : (List.range' 0 bs.length).any (fun i => bs.getD i false) = bs.any id := by
  rw [← List.range_eq_range']
  rw [Bool.eq_iff_iff, List.any_eq_true, List.any_eq_true]
  constructor
  · rintro ⟨i, hi, e⟩
    have h := List.mem_range.mp hi
    refine ⟨bs[i], List.getElem_mem h, ?_⟩
    simpa [List.getD_eq_getElem?_getD, List.getElem?_eq_getElem h] using e
  · rintro ⟨b, hb, e⟩
    obtain ⟨i, h, rfl⟩ := List.mem_iff_getElem.mp hb
    exact ⟨i, List.mem_range.mpr h, by simpa [List.getD_eq_getElem?_getD, List.getElem?_eq_getElem h] using e⟩
theorem paired_get {α β : Type} {R : α → β → Prop} : ∀ {xs : List α} {bs : List β}, Paired R xs bs → ∀ i (h : i < xs.length), ∃ b, bs[i]? = some b ∧ R xs[i] b
  | _, _, .nil, i, h => absurd h (Nat.not_lt_zero _)
  | _ :: _, _ :: _, .cons r p, 0, _ => ⟨_, rfl, r⟩
  | _ :: _, _ :: _, .cons r p, i + 1, h => paired_get p i (by simpa using h)
theorem paired_len {α β : Type} {R : α → β → Prop} : ∀ {xs : List α} {bs : List β}, Paired R xs bs → xs.length = bs.length
  | _, _, .nil => rfl
  | _, _, .cons _ p => congrArg (· + 1) (paired_len p)
theorem in_body {n : Nat} {D : Eqb} {neg : Bool} (h : EqB X n D) (hr : Room (n + 1) X.A) {pins : List (Addr × Obj)} {s : Shared} {σ : L2.St} {H : Hp} {x y : V} {u v : Value} {Q : VK} (I : L2.Inv X pins σ H s) (rx : RelV x u) (ry : RelV y v) (hq : rInB X.K neg D x y H Q) :
    wpAny (model X.prog X.w) X.A (contains v u) (fun r s' => EP X pins σ Q (.bool (if neg then !r else r)) s') X.xe s := by
  obtain ⟨p, xs, bs, rfl, hS, pr, q⟩ := hq
  cases ry
  obtain ⟨its, r, pl, hz⟩ := I.list hS
  have hT : s.TypeIs (.ref p) "list" := by
    obtain ⟨⟨cls, dd, data, sl⟩, n', ho, hc, _⟩ := id pl
    exact ⟨_, ho, hc⟩
  have J0 : (fun s' => ∃ H', L2.Inv X pins σ H' s' ∧ Ext H H') s := ⟨H, I, Ext.rfl'⟩
  refine wpAny_contains_slot hT PySem.F.slot_list_contains ?_
  refine GQ.call_here PySem.F.slot_list_contains hT PySem.F.entry_list_contains (PySem.F.args_list_contains_2 _ _) ?_
  have lp := in_loop (P := X.prog) (w := X.w) (A := X.A) (R := wants (fun r s' => wpAny (model X.prog X.w) X.A (truthy r) (fun r s' => EP X pins σ Q (Value.bool (if neg = true then !r else r)) s') X.xe s') X.xe) (l := p) (N := xs.length) (x := u) (fun s' => ∃ H', L2.Inv X pins σ H' s' ∧ Ext H H') (fun i => bs.getD i false) ?hl bs.length 0 (by rw [paired_len pr]; rfl) (Nat.zero_le _) s J0 ?fin
  case hl =>
    rintro i s' ⟨H', I', e⟩
    obtain ⟨its', r', pl', _⟩ := I'.list (SqL.ext hS e)
    obtain ⟨o, n', ho, hc, hd, hs⟩ := pl'
    obtain ⟨cls, dd, data, sl⟩ := o
    dsimp only at hc hd hs
    refine ⟨its', n', dd, sl, by first | (rw [ho, hc, hs]) | (rw [ho]; subst hc; subst hs; rfl), r'.length.symm, fun hi => ?_⟩
    have hx : i < xs.length := by rw [r'.length]; exact hi
    obtain ⟨z, hz', rz⟩ := r'.get (List.getElem?_eq_getElem hx)
    rw [List.getElem?_eq_getElem hi] at hz'
    obtain ⟨b, hb, hd'⟩ := paired_get pr i hx
    have eb : bs.getD i false = b := by simp [List.getD_eq_getElem?_getD, hb]
    rw [Option.some.inj hz', eb]
    refine wpAny_mono (h X.A.in1 pins s' σ H' _ x _ u b ⟨hr.in1, rfl⟩ I' rz rx (hd' _ e)) (fun r2 s2 q2 => ?_) fun _ _ z => z
    obtain ⟨h2, H2, I2, e2⟩ := q2
    exact ⟨h2, H2, I2, e.trans e2⟩
  case fin =>
    rintro s' ⟨H', I', e⟩
    rw [any_range]
    exact wpAny_truthy_bool ⟨.bl _, H', I', rfl, q H' e⟩
  obtain ⟨hp, g, d, tk, os⟩ := s
  wp_walk
  exact ⟨plainId_quiet MeetsSeq.plain_contains_loop _, codeAny_builtin MeetsSeq.entry_contains_loop (by
    rw [Around.under_plainId MeetsSeq.plain_contains_loop _]
    exact lp)⟩
theorem op_inB {n : Nat} {D : Eqb} (h : EqB X n D) (hr : Room (n + 1) X.A) : OpR X (compareOp .In) (rInB X.K false D) := fun pins s σ H x y v u Q I rx ry hq => by
  show wpAny (model X.prog X.w) X.A (do return Value.bool (← contains u v)) (EP X pins σ Q) X.xe s
  exact wpAny_bind (wpAny_mono (in_body h hr I rx ry hq) (fun _ _ z => wpAny_pure z) fun _ _ z => z)
theorem op_notInB {n : Nat} {D : Eqb} (h : EqB X n D) (hr : Room (n + 1) X.A) : OpR X (compareOp .NotIn) (rInB X.K true D) := fun pins s σ H x y v u Q I rx ry hq => by
  show wpAny (model X.prog X.w) X.A (do return Value.bool (!(← contains u v))) (EP X pins σ Q) X.xe s
  exact wpAny_bind (wpAny_mono (in_body h hr I rx ry hq) (fun _ _ z => wpAny_pure z) fun _ _ z => z)
end
end Vf

set_option Elab.async false
set_option linter.all false
set_option maxRecDepth 100000
set_option maxHeartbeats 2000000
namespace K3
open PySem PySem.Spec PyProof.Rows L2 Vf
def top (i : Nat) : Stmt := PySem.Challenge.pw_seenshares_k03_share_order.main.body.getD i (.Pass ⟨0, 0, 0, 0⟩)
abbrev OkF (P : Program) (w : World) (K : PySem.W.Frag) (mg : Str → Option Value) (base : Heap) (CX : CXT) (k : Nat) (x : Str) (ps : List Str) (sp : Sp) : Prop := OkD P w K mg base CX k (x, none) ps [] sp
abbrev OkM (P : Program) (w : World) (K : PySem.W.Frag) (mg : Str → Option Value) (base : Heap) (CX : CXT) (k : Nat) (m : Str) (ps : List Str) (sp : Sp) : Prop := OkD P w K mg base CX k ("Share", some m) ps [] sp
abbrev FnD (K : PySem.W.Frag) (p : Pl) (x q : Str) (st : Stmt) (fd : FuncData) : Prop := FunD K x q (defArgs st) (defBody st) (defScope st) [] [] (He.fAd K p) fd
abbrev CS (K : PySem.W.Frag) : Addr := He.ga K "Share"
abbrev CB (K : PySem.W.Frag) : Addr := He.ga K "BadShare"
abbrev CN (K : PySem.W.Frag) : Addr := He.ga K "NoShare"
structure STxt (K : PySem.W.Frag) (mg : Str → Option Value) : Prop where
  z_int : mg "int" = none
  z_bool : mg "bool" = none
  z_abs : mg "abs" = none
  z_isinstance : mg "isinstance" = none
  gcd : mg "gcd" = some (.builtin "math.gcd")
  g_is_integer : mg "is_integer" = some (.ref (He.ga K "is_integer"))
  g_is_number : mg "is_number" = some (.ref (He.ga K "is_number"))
  g_parts : mg "parts" = some (.ref (He.ga K "parts"))
  g_Share : mg "Share" = some (.ref (He.ga K "Share"))
  g_NoShare : mg "NoShare" = some (.ref (He.ga K "NoShare"))
  g_BadShare : mg "BadShare" = some (.ref (He.ga K "BadShare"))
  c_Share : Cls K (He.ga K "Share")
  m_Share : Mk K (He.ga K "Share") (He.fAd K ("Share", some "__init__"))
  nT : NoAttr K (He.ga K "Share") "top"
  nB : NoAttr K (He.ga K "Share") "bottom"
  x_BadShare : ExI K "BadShare" "part"
  e_NoShare : (He.Fa.exc "NoShare").ok K = true
  te : PySem.W.exmOne K (.ref (He.ga K "NoShare")) (.ref (He.ga K "NoShare")) = some true
  hn : PySem.W.specialIn K (.builtin "object.__class__") "__get__" = some (some (.builtin "getset_descriptor.__get__"))
  ht : PySem.W.takesIn K (.builtin "object.__class__") = some true
  ha : PySem.W.findIn K (.ref (He.ga K "Share")) "__class__" = some (some (.builtin "object.__class__"))
  hm : PySem.W.mroIn K (He.ga K "Share") (.type "object") = some true
  hi : PySem.W.mroIn K (He.ga K "Share") (.type "int") = some false
  hc : PySem.W.selfFirst K (He.ga K "Share") = true
  hs : PySem.W.subIn K (.type "int") (.ref (He.ga K "Share")) = some false
  k1 : PySem.W.kitOne K (.ref (He.ga K "Share")) (.ref (He.ga K "Share")) = some true
  kz : ∀ n ∈ (["int", "bool", "NoneType", "str", "tuple", "list", "dict"] : List String), PySem.W.kitOne K (.type n) (.ref (He.ga K "Share")) = some false
/-! ### a share's fields -/
theorem tb_ : ¬ (("top" : Str) = "bottom") := by decide +kernel
theorem bt_ : ¬ (("bottom" : Str) = "top") := by decide +kernel
def shf (a b : Int) : List (Str × V) := putF "bottom" (.int b) (putF "top" (.int a) [])
theorem shf_top (a b : Int) : (shf a b).lookup ("top" : Str) = some (.int a) := by
  unfold shf
  rw [lookup_putF, if_neg tb_, lookup_putF, if_pos rfl]
theorem shf_bottom (a b : Int) : (shf a b).lookup ("bottom" : Str) = some (.int b) := by
  unfold shf
  rw [lookup_putF, if_pos rfl]
theorem shf_no (a b : Int) {m : Str} (h1 : ¬ m = "top") (h2 : ¬ m = "bottom") : (shf a b).lookup m = none := by
  unfold shf
  rw [lookup_putF, if_neg h2, lookup_putF, if_neg h1]
  rfl
/-- at p a share a over b -/
def Sh (C : Addr) (H : Hp) (p : Addr) (a b : Int) : Prop := ∃ dx, H p = some (.ins C dx (shf a b))
theorem Sh.ext {C : Addr} {H H' : Hp} {p : Addr} {a b : Int} (h : Sh C H p a b) (s : Same H H') : Sh C H' p a b := by
  obtain ⟨dx, e⟩ := h
  exact ⟨dx, s _ _ e⟩
/-- y is c over d, a share or an int -/
def Nm (C : Addr) (H : Hp) (y : V) (c d : Int) : Prop := (∃ p, y = .ref p ∧ Sh C H p c d) ∨ (y = .int c ∧ d = 1)
theorem Nm.ext {C : Addr} {H H' : Hp} {y : V} {c d : Int} (h : Nm C H y c d) (s : Same H H') : Nm C H' y c d := by
  rcases h with ⟨p, e, h⟩ | h
  · exact .inl ⟨p, e, h.ext s⟩
  · exact .inr h
theorem same_new {H : Hp} {p : Addr} {o : HO} (h : H p = none) : Same H (upd H p o) := fun b u e => by
  rw [upd_ne (ne_of_none e h)]
  exact e
theorem same_make {H : Hp} {x dx : Addr} {o1 o2 : HO} (nx : H x = none) (ndx : H dx = none) : Same H (upd (upd H dx o1) x o2) := fun b o e => by
  rw [upd_ne (ne_of_none e nx), upd_ne (ne_of_none e ndx)]
  exact e
theorem same_make2 {H : Hp} {x dx : Addr} {o1 o2 o3 : HO} (nx : H x = none) (ndx : H dx = none) : Same H (upd (upd (upd H dx o1) x o2) x o3) := by
  rw [upd_upd]
  exact same_make nx ndx
section
variable {P : Program} {w : World} {K : PySem.W.Frag} {mg : Str → Option Value} {base : Heap}
theorem okd {CX : CXT} {k : Nat} {p : Pl} {x q : Str} {st : Stmt} {fd : FuncData} {ps : List Str} {sp : Sp} (F : FnD K p x q st fd) (ok : FnOk P w K mg base CX k (He.fAd K p) fd ps sp)
    (h : ∀ (kV doc pm : Value) (an : Option Addr) (cdv ct : Value) (us : List Value), us.length = ps.length → bindArgs (PySem.W.fnOf x q (defArgs st) (defBody st) (defScope st) .none kV doc pm an cdv ct) ⟨us, []⟩ = pure (ps.zip us)) : OkD P w K mg base CX k p ps [] sp :=
  ⟨⟨fd, [], ok, FunD.bindsN F h, .nil⟩, F.kp⟩
abbrev s_is_integer : Stmt := top 6
theorem sc_is_integer : FnScope ["x"] ["x"] (defScope s_is_integer) := ⟨rfl, rfl, rfl, by decide +kernel, rfl, by decide +kernel, by decide +kernel⟩
-- slots: 0 x
theorem ok_is_integer {fd : FuncData} (F : FnD K ("is_integer", none) "is_integer" "is_integer" s_is_integer fd) (T : STxt K mg) : OkF P w K mg base CX0 1 "is_integer" ["x"] spIsInt := by
  refine okd F (F.ok sc_is_integer (fun vs H Q E h => ?_) fun cdv A outer s H vs Q E hr h => ⟨t_isint K, PSs.nox ?_, run_isint h⟩) fun _ _ _ _ _ _ us hl => match us, hl with | [_], _ => rfl
  · obtain ⟨x, rfl, _⟩ := h
    rfl
  · exact (pss_one (ps_ret (pe_and (pe_callB call_isi (by rfl) T.z_isinstance (by decide +kernel) (pa_cons (pv 0) (pa_cons (pe_ty T.z_int (by decide +kernel)) pa_nil))) (pe_one (pe_not (pe_callB call_isi (by rfl) T.z_isinstance (by decide +kernel) (pa_cons (pv 0) (pa_cons (pe_ty T.z_bool (by decide +kernel)) pa_nil))))))))
abbrev s_BadShare_init : Stmt := inClass (top 3) 0
theorem sc_BadShare_init : FnScope ["self", "part"] ["self", "part"] (defScope s_BadShare_init) := ⟨rfl, rfl, rfl, by decide +kernel, rfl, by decide +kernel, by decide +kernel⟩
-- slots: 0 self, 1 part
theorem ok_BadShare_init {fd : FuncData} (F : FnD K ("BadShare", some "__init__") "__init__" "BadShare.__init__" s_BadShare_init fd) : OkD P w K mg base CX0 1 ("BadShare", some "__init__") ["self", "part"] [] (spExI K (CB K) "part") := by
  refine okd F (F.ok sc_BadShare_init (fun vs H Q E h => ?_) fun cdv A outer s H vs Q E hr h => ⟨tOst K "part" (tVar 0) (tVar 1), PSs.nox ?_, run_exI h⟩) fun _ _ _ _ _ _ us hl => match us, hl with | [_, _], _ => rfl
  · obtain ⟨a, v, rfl, _⟩ := h
    rfl
  · exact pss_one (ps_ost (pv 0) (pv 1))
abbrev s_Share_init : Stmt := inClass (top 8) 0
theorem sc_Share_init : FnScope ["self", "top", "bottom", "common"] ["self", "top", "bottom"] (defScope s_Share_init) := ⟨rfl, rfl, rfl, by decide +kernel, rfl, by decide +kernel, by decide +kernel⟩
-- slots: 0 self, 1 top, 2 bottom, 3 common
def spShI (K : PySem.W.Frag) : Sp := fun vs H Q E => ∃ (p dx : Addr) (x y : V), vs = [.ref p, x, y] ∧ H p = some (.ins (CS K) dx []) ∧
  ((∃ t b : Int, x = .int t ∧ y = .int b ∧ b ≠ 0 ∧ Bit 4000 b ∧ Q .non (upd H p (.ins (CS K) dx (shf (nT t b) (nB t b))))) ∨
   (Odd H x ∧ ∀ d, H d = none → E (.ref (CB K)) (some d) (upd H d (.xd [("part", .str "top")]))) ∨
   (∃ t : Int, x = .int t ∧ (Odd H y ∨ y = .int 0) ∧ ∀ d, H d = none → E (.ref (CB K)) (some d) (upd H d (.xd [("part", .str "bottom")]))))
theorem ok_Share_init {fd : FuncData} (F : FunD K "__init__" "Share.__init__" (defArgs s_Share_init) (defBody s_Share_init) (defScope s_Share_init) [.int 1] [] (He.fAd K ("Share", some "__init__")) fd) (T : STxt K mg)
    (O_is_integer : OkF P w K mg base CX0 1 "is_integer" ["x"] spIsInt) (O_BadShare_init : OkD P w K mg base CX0 1 ("BadShare", some "__init__") ["self", "part"] [] (spExI K (CB K) "part")) :
    FnOk P w K mg base (L2.CX P w) 4 (He.fAd K ("Share", some "__init__")) fd ["self", "top", "bottom"] (spShI K) := by
  refine F.ok sc_Share_init (fun vs H Q E h => ?_) fun cdv A outer s H vs Q E hr h => ?_
  · obtain ⟨p, dx, x, y, rfl, _⟩ := h
    rfl
  · obtain ⟨p, dx, x, y, rfl, hp, h⟩ := h
    refine ⟨_, (pss_cons (ps_if (pt_not (pt_val (c_fn O_is_integer hr (by decide) T.g_is_integer pass0 (pa_cons (pv 1) pa_nil)))) (pss_one (c_raise T.x_BadShare O_BadShare_init hr (by decide) T.g_BadShare (takes_of rfl rfl rfl rfl) (pa_cons pe_str pa_nil)))
  pss_nil)
  (pss_cons (ps_if (PW.pt (pw_or (pt_not (pt_val (c_fn O_is_integer hr (by decide) T.g_is_integer pass0 (pa_cons (pv 2) pa_nil)))) (pw_or1 (pt_cmpR op_eq (pv 2) pe_int (nomark _))))) (pss_one (c_raise T.x_BadShare O_BadShare_init hr (by decide) T.g_BadShare (takes_of rfl rfl rfl rfl) (pa_cons pe_str pa_nil)))
  pss_nil)
  (pss_cons (ps_set (i := 3) sc_Share_init.nd rfl (Or.inl rfl) (pe_callBfun cr_gcd (by rfl) T.gcd (pa_cons (pv 1) (pa_cons (pv 2) pa_nil))))
  (C8.pss_cut (ps_if (pt_cmpR op_lt (pv 2) pe_int (nomark _)) (pss_one (ps_set (i := 3) sc_Share_init.nd rfl (Or.inl rfl) (pe_un un_neg (pv 3))))
  pss_nil)
  (pss_cons (ps_fld (pv 0) (pe_op op_fdivG (pv 1) (pv 3)) rfl)
  (pss_one (ps_fld (pv 0) (pe_op op_fdivG (pv 2) (pv 3)) rfl))))))), ?_⟩
    rcases h with ⟨t, b, rfl, rfl, hb, bb, q⟩ | ⟨o, k⟩ | ⟨t, rfl, o, k⟩
    · refine ⟨_, rfl, _, rfl, .inl ⟨⟨t, rfl⟩, true, rfl, iteF ?_⟩⟩
      refine ⟨_, rfl, _, rfl, .inl ⟨⟨b, rfl⟩, true, rfl, iteF ⟨_, rfl, rfl, _, rfl, ?_⟩⟩⟩
      rw [decide_eq_false (show ¬ (V.int b = V.int 0) from fun e => hb (V.int.inj e))]
      refine iteF ⟨_, rfl, _, rfl, t, b, rfl, ?_⟩
      refine ⟨fun σ' H' => H' = H ∧ σ' = [some (.ref p), some (.int t), some (.int b), some (.int (nC t b))], ?_, ?_⟩
      · refine ⟨_, rfl, b, 0, rfl, rfl, _, rfl, ite2 (fun h => ?_) fun h => ?_⟩
        · refine ⟨_, rfl, _, rfl, rfl, ?_⟩
          have e : nC t b = -(nG t b) := if_pos (of_decide_eq_true h)
          rw [e]
          rfl
        · refine ⟨rfl, ?_⟩
          have e : nC t b = nG t b := if_neg fun z => h (decide_eq_true z)
          rw [e]
          rfl
      rintro σ' H' ⟨rfl, rfl⟩
      have hc := nC_ne (t := t) hb
      have hl : (nC t b).natAbs.log2 < 9000 := by
        refine Bit.log (n := 4000) (Nat.lt_of_le_of_lt ?_ bb) (by decide) (by decide)
        rw [nC_abs]
        exact Nat.gcd_le_right _ (by omega)
      refine ⟨_, rfl, _, rfl, t, _, rfl, rfl, ⟨hc, hl⟩, _, rfl, p, _, dx, [], rfl, hp, T.c_Share, T.nT, (by show 0 < 1000; decide), ?_⟩
      refine ⟨_, rfl, _, rfl, b, _, rfl, rfl, ⟨hc, hl⟩, _, rfl, p, _, dx, _, rfl, upd_same, T.c_Share, T.nB, (by show 1 < 1000; decide), ?_⟩
      rw [upd_upd]
      exact q
    · refine ⟨_, rfl, _, rfl, .inr ⟨o, false, rfl, iteT ⟨_, rfl, fun d hd => k d hd⟩⟩⟩
    · refine ⟨_, rfl, _, rfl, .inl ⟨⟨t, rfl⟩, true, rfl, iteF ?_⟩⟩
      rcases o with o | rfl
      · exact ⟨_, rfl, _, rfl, .inr ⟨o, false, rfl, iteT (iteT ⟨_, rfl, fun d hd => k d hd⟩)⟩⟩
      · refine ⟨_, rfl, _, rfl, .inl ⟨⟨0, rfl⟩, true, rfl, iteF ⟨_, rfl, rfl, _, rfl, ?_⟩⟩⟩
        rw [decide_eq_true (rfl : V.int 0 = V.int 0)]
        exact iteT ⟨_, rfl, fun d hd => k d hd⟩
theorem O_Share2 {fd : FuncData} (F : FunD K "__init__" "Share.__init__" (defArgs s_Share_init) (defBody s_Share_init) (defScope s_Share_init) [.int 1] [] (He.fAd K ("Share", some "__init__")) fd) (G : FnOk P w K mg base (L2.CX P w) 4 (He.fAd K ("Share", some "__init__")) fd ["self", "top", "bottom"] (spShI K)) :
    OkD P w K mg base (L2.CX P w) 4 ("Share", some "__init__") ["self", "top", "bottom"] [] (spShI K) := by
  obtain ⟨ds, v, b⟩ := F.binds1 (ps := ["self", "top", "bottom"]) 3 1 (by decide) rfl fun T kV doc pm an cdv ct us its h1 h2 => match us, its, h1, h2 with | [_, _, _], [_], _, _ => ⟨_, rfl, rfl⟩
  exact ⟨⟨fd, ds, G, b, v⟩, F.kp⟩
theorem O_Share1 {fd : FuncData} (F : FunD K "__init__" "Share.__init__" (defArgs s_Share_init) (defBody s_Share_init) (defScope s_Share_init) [.int 1] [] (He.fAd K ("Share", some "__init__")) fd) (G : FnOk P w K mg base (L2.CX P w) 4 (He.fAd K ("Share", some "__init__")) fd ["self", "top", "bottom"] (spShI K)) :
    OkD P w K mg base (L2.CX P w) 4 ("Share", some "__init__") ["self", "top", "bottom"] [.int 1] (spShI K) := by
  obtain ⟨ds, v, b⟩ := F.binds1 (ps := ["self", "top", "bottom"]) 2 0 (by decide) rfl fun T kV doc pm an cdv ct us its h1 h2 => match us, its, h1, h2 with | [_, _], [_], _, _ => ⟨_, rfl, rfl⟩
  exact ⟨⟨fd, ds, G, b, v⟩, F.kp⟩
abbrev s_Share_floor : Stmt := inClass (top 8) 19
theorem sc_Share_floor : FnScope ["self"] ["self"] (defScope s_Share_floor) := ⟨rfl, rfl, rfl, by decide +kernel, rfl, by decide +kernel, by decide +kernel⟩
-- slots: 0 self
def spFloor (C : Addr) : Sp := fun vs H Q _ => ∃ (p : Addr) (a b : Int), vs = [.ref p] ∧ Sh C H p a b ∧ 0 < b ∧ Bit 4000 b ∧ Q (.int (a / b)) H
theorem ok_Share_floor {fd : FuncData} (F : FnD K ("Share", some "floor") "floor" "Share.floor" s_Share_floor fd) (T : STxt K mg) : OkD P w K mg base CX0 1 ("Share", some "floor") ["self"] [] (spFloor (CS K)) := by
  refine okd F (F.ok sc_Share_floor (fun vs H Q E h => ?_) fun cdv A outer s H vs Q E hr h => ?_) fun _ _ _ _ _ _ us hl => match us, hl with | [_], _ => rfl
  · obtain ⟨p, a, b, rfl, _⟩ := h
    rfl
  · obtain ⟨p, a, b, rfl, ⟨dx, hp⟩, h0, hb, q⟩ := h
    refine ⟨_, PSs.nox (pss_one (ps_ret (pe_op op_fdivW (pe_fld (pv 0) rfl) (pe_fld (pv 0) rfl)))), ?_⟩
    exact ⟨_, rfl, p, _, dx, _, _, rfl, hp, T.c_Share, T.nT, shf_top a b, _, rfl, p, _, dx, _, _, rfl, hp, T.c_Share, T.nB, shf_bottom a b, a, b, rfl, rfl, ⟨h0, hb.log (by decide) (by decide)⟩, q⟩
abbrev s_is_number : Stmt := top 9
theorem sc_is_number : FnScope ["x"] ["x"] (defScope s_is_number) := ⟨rfl, rfl, rfl, by decide +kernel, rfl, by decide +kernel, by decide +kernel⟩
-- slots: 0 x
def spIsNum (C : Addr) : Sp := fun vs H Q _ => ∃ x, vs = [x] ∧ (((∃ c d, Nm C H x c d) ∧ Q (.bl true) H) ∨ (Odd H x ∧ Q (.bl false) H))
theorem odd_share (T : STxt K mg) {H : Hp} {x : V} (o : Odd H x) : ∃ n : String, TyX K H x (.type n) ∧ PySem.W.kitOne K (.type n) (.ref (CS K)) = some false := by
  cases o with
  | bl b => exact ⟨"bool", .base (.bl b), T.kz _ (by simp)⟩
  | non => exact ⟨"NoneType", .base .non, T.kz _ (by simp)⟩
  | str z => exact ⟨"str", .base (.str z), T.kz _ (by simp)⟩
  | tup h => exact ⟨"tuple", .base (.tup h), T.kz _ (by simp)⟩
  | lst h => exact ⟨"list", .base (.lst h), T.kz _ (by simp)⟩
  | dic h => exact ⟨"dict", .base (.dK h), T.kz _ (by simp)⟩
theorem ok_is_number {fd : FuncData} (F : FnD K ("is_number", none) "is_number" "is_number" s_is_number fd) (T : STxt K mg) (O_is_integer : OkF P w K mg base CX0 1 "is_integer" ["x"] spIsInt) : OkF P w K mg base CX0 2 "is_number" ["x"] (spIsNum (CS K)) := by
  refine okd F (F.ok sc_is_number (fun vs H Q E h => ?_) fun cdv A outer s H vs Q E hr h => ?_) fun _ _ _ _ _ _ us hl => match us, hl with | [_], _ => rfl
  · obtain ⟨x, rfl, _⟩ := h
    rfl
  · obtain ⟨x, rfl, h⟩ := h
    refine ⟨_, PSs.nox (pss_one (ps_ret (pe_or (pe_callB call_isi (by rfl) T.z_isinstance (by decide +kernel) (pa_cons (pv 0) (pa_cons (pe_cl T.g_Share) pa_nil))) (pe_one (c_fn O_is_integer hr (by decide) T.g_is_integer pass0 (pa_cons (pv 0) pa_nil)))))), ?_⟩
    rcases h with ⟨⟨c, d, ⟨p, rfl, dx, hp⟩ | ⟨rfl, _⟩⟩, q⟩ | ⟨o, q⟩
    · exact ⟨_, rfl, .ref p, .ref (CS K), .ref (CS K), .ref (CS K), true, rfl, .own _, .base (.ins hp T.c_Share T.ha T.hn T.ht T.hm), T.k1, true, rfl, iteT q⟩
    · exact ⟨_, rfl, .int c, .ref (CS K), .type "int", .ref (CS K), false, rfl, .own _, .base (.int c), T.kz _ (by simp), false, rfl, iteF ⟨_, rfl, _, rfl, .inl ⟨⟨c, rfl⟩, q⟩⟩⟩
    · obtain ⟨n, ty, kk⟩ := odd_share T o
      exact ⟨_, rfl, x, .ref (CS K), .type n, .ref (CS K), false, rfl, .own _, ty, kk, false, rfl, iteF ⟨_, rfl, _, rfl, .inr ⟨o, q⟩⟩⟩
abbrev s_parts : Stmt := top 10
theorem sc_parts : FnScope ["number"] ["number"] (defScope s_parts) := ⟨rfl, rfl, rfl, by decide +kernel, rfl, by decide +kernel, by decide +kernel⟩
-- slots: 0 number
def spParts (C : Addr) : Sp := fun vs H Q _ => ∃ x c d, vs = [x] ∧ Nm C H x c d ∧ ∀ t, H t = none → Q (.ref t) (upd H t (.tup [.int c, .int d]))
theorem ok_parts {fd : FuncData} (F : FnD K ("parts", none) "parts" "parts" s_parts fd) (T : STxt K mg) : OkF P w K mg base CX0 1 "parts" ["number"] (spParts (CS K)) := by
  refine okd F (F.ok sc_parts (fun vs H Q E h => ?_) fun cdv A outer s H vs Q E hr h => ?_) fun _ _ _ _ _ _ us hl => match us, hl with | [_], _ => rfl
  · obtain ⟨x, c, d, rfl, _⟩ := h
    rfl
  · obtain ⟨x, c, d, rfl, h, q⟩ := h
    refine ⟨_, PSs.nox (pss_cons (ps_if (pt_val (pe_callB call_isi (by rfl) T.z_isinstance (by decide +kernel) (pa_cons (pv 0) (pa_cons (pe_cl T.g_Share) pa_nil)))) (pss_one (ps_ret (pe_tup (pa_cons (pe_fld (pv 0) rfl) (pa_cons (pe_fld (pv 0) rfl) pa_nil)))))
  pss_nil)
  (pss_one (ps_ret (pe_tup (pa_cons (pv 0) (pa_cons pe_int pa_nil)))))), ?_⟩
    rcases h with ⟨p, rfl, dx, hp⟩ | ⟨rfl, rfl⟩
    · refine ⟨_, rfl, .ref p, .ref (CS K), .ref (CS K), .ref (CS K), true, rfl, .own _, .base (.ins hp T.c_Share T.ha T.hn T.ht T.hm), T.k1, true, rfl, iteT ?_⟩
      exact ⟨_, rfl, p, _, dx, _, _, rfl, hp, T.c_Share, T.nT, shf_top c d, _, rfl, p, _, dx, _, _, rfl, hp, T.c_Share, T.nB, shf_bottom c d, (by show 2 ≤ sizeLine; decide), fun t nt => q t nt⟩
    · refine ⟨_, rfl, .int c, .ref (CS K), .type "int", .ref (CS K), false, rfl, .own _, .base (.int c), T.kz _ (by simp), false, rfl, iteF ?_⟩
      exact ⟨_, rfl, (by show 2 ≤ sizeLine; decide), fun t nt => q t nt⟩
end
end K3

set_option Elab.async false
set_option linter.all false
set_option maxRecDepth 100000
set_option maxHeartbeats 2000000
namespace K3
open PySem PySem.Spec PyProof.Rows L2 Vf
section
variable {P : Program} {w : World} {K : PySem.W.Frag} {mg : Str → Option Value} {base : Heap}
structure CMeth (K : PySem.W.Frag) : Prop where
  m_eq : Meth K (He.ga K "Share") "__eq__" (He.fAd K ("Share", some "__eq__"))
  m_ne : Meth K (He.ga K "Share") "__ne__" (He.fAd K ("Share", some "__ne__"))
  m_lt : Meth K (He.ga K "Share") "__lt__" (He.fAd K ("Share", some "__lt__"))
  m_le : Meth K (He.ga K "Share") "__le__" (He.fAd K ("Share", some "__le__"))
  m_gt : Meth K (He.ga K "Share") "__gt__" (He.fAd K ("Share", some "__gt__"))
  m_ge : Meth K (He.ga K "Share") "__ge__" (He.fAd K ("Share", some "__ge__"))
  km : ∀ n ∈ oddK, PySem.W.mroIn K (He.ga K "Share") (.type n) = some false
/-- self a over b, other c over d -/
def spCm (C : Addr) (f : Int → Int → Int → Int → Bool) : Sp := fun vs H Q _ => ∃ (p : Addr) (y : V) (a b c d : Int), vs = [.ref p, y] ∧ Sh C H p a b ∧ Nm C H y c d ∧ Bit 900 a ∧ Bit 900 b ∧ Bit 900 c ∧ Bit 900 d ∧
  ∀ H' : Hp, Same H H' → Q (.bl (f a b c d)) H'
def fLt (a b c d : Int) : Bool := decide (a * d < c * b)
def fLe (a b c d : Int) : Bool := decide (a * d ≤ c * b)
def fGt (a b c d : Int) : Bool := decide (c * b < a * d)
def fGe (a b c d : Int) : Bool := decide (c * b ≤ a * d)
def fEq (a b c d : Int) : Bool := decide (a = c) && decide (b = d)
/-- self a over b, other a number or not -/
def spEqs (C : Addr) (f : Bool → Bool) : Sp := fun vs H Q _ => ∃ (p : Addr) (y : V) (a b : Int), vs = [.ref p, y] ∧ Sh C H p a b ∧
  ((∃ c d, Nm C H y c d ∧ ∀ H' : Hp, Same H H' → Q (.bl (f (fEq a b c d))) H') ∨ (Odd H y ∧ Q (.bl (f false)) H))
theorem int_dec (a c : Int) : decide (V.int a = V.int c) = decide (a = c) := decide_eq_decide.mpr ⟨fun h => V.int.inj h, fun h => by rw [h]⟩
abbrev s_Share_lt : Stmt := inClass (top 8) 13
theorem sc_Share_lt : FnScope ["self", "other", "top", "bottom"] ["self", "other"] (defScope s_Share_lt) := ⟨rfl, rfl, rfl, by decide +kernel, rfl, by decide +kernel, by decide +kernel⟩
-- slots: 0 self, 1 other, 2 top, 3 bottom
theorem ok_Share_lt {fd : FuncData} (F : FnD K ("Share", some "__lt__") "__lt__" "Share.__lt__" s_Share_lt fd) (T : STxt K mg) (O_is_number : OkF P w K mg base CX0 2 "is_number" ["x"] (spIsNum (CS K))) (O_parts : OkF P w K mg base CX0 1 "parts" ["number"] (spParts (CS K))) : OkM P w K mg base CX0 3 "__lt__" ["self", "other"] (spCm (CS K) fLt) := by
  refine okd F (F.ok sc_Share_lt (fun vs H Q E h => ?_) fun cdv A outer s H vs Q E hr h => ?_) fun _ _ _ _ _ _ us hl => match us, hl with | [_, _], _ => rfl
  · obtain ⟨p, y, a, b, c, d, rfl, _⟩ := h
    rfl
  · obtain ⟨p, y, a, b, c, d, rfl, ⟨dx, hp⟩, hN, ba, bb, bc, bd, k⟩ := h
    have ft := shf_top a b
    have fb := shf_bottom a b
    refine ⟨_, PSs.nox (pss_cons (ps_if (pt_not (pt_val (c_fn O_is_number hr (by decide) T.g_is_number pass0 (pa_cons (pv 1) pa_nil)))) (pss_one ps_never)
  pss_nil)
  (pss_cons (ps_asg (c_fn O_parts hr (by decide) T.g_parts pass0 (pa_cons (pv 1) pa_nil)) (pg_tup rfl (pgs_cons (pg_name (i := 2) sc_Share_lt.nd rfl (Or.inl rfl)) (pgs_cons (pg_name (i := 3) sc_Share_lt.nd rfl (Or.inl rfl)) pgs_nil))))
  (pss_one (ps_ret (pe_cmpR op_lt (pe_op op_mulW (pe_fld (pv 0) rfl) (pv 3)) (pe_op op_mulW (pv 2) (pe_fld (pv 0) rfl)) (nomark _)))))), ?_⟩
    refine ⟨_, rfl, y, rfl, .inl ⟨⟨c, d, hN⟩, true, rfl, iteF ?_⟩⟩
    refine ⟨_, rfl, y, c, d, rfl, hN, fun t nt => ?_⟩
    have st := same_new (o := .tup [.int c, .int d]) nt
    have hp' := st _ _ hp
    refine ⟨t, _, rfl, SqT.of upd_same, rfl, _, _, rfl, _, _, rfl, rfl, ?_⟩
    refine ⟨_, rfl, p, _, dx, _, _, rfl, hp', T.c_Share, T.nT, ft, _, rfl, a, d, rfl, rfl, ba.wm bd (by decide) (by decide) (by decide), _, rfl, _, rfl, p, _, dx, _, _, rfl, hp', T.c_Share, T.nB, fb, c, b, rfl, rfl, bc.wm bb (by decide) (by decide) (by decide), ?_⟩
    exact ⟨_, _, rfl, rfl, k _ st⟩
abbrev s_Share_le : Stmt := inClass (top 8) 14
theorem sc_Share_le : FnScope ["self", "other", "top", "bottom"] ["self", "other"] (defScope s_Share_le) := ⟨rfl, rfl, rfl, by decide +kernel, rfl, by decide +kernel, by decide +kernel⟩
-- slots: 0 self, 1 other, 2 top, 3 bottom
theorem ok_Share_le {fd : FuncData} (F : FnD K ("Share", some "__le__") "__le__" "Share.__le__" s_Share_le fd) (T : STxt K mg) (O_is_number : OkF P w K mg base CX0 2 "is_number" ["x"] (spIsNum (CS K))) (O_parts : OkF P w K mg base CX0 1 "parts" ["number"] (spParts (CS K))) : OkM P w K mg base CX0 3 "__le__" ["self", "other"] (spCm (CS K) fLe) := by
  refine okd F (F.ok sc_Share_le (fun vs H Q E h => ?_) fun cdv A outer s H vs Q E hr h => ?_) fun _ _ _ _ _ _ us hl => match us, hl with | [_, _], _ => rfl
  · obtain ⟨p, y, a, b, c, d, rfl, _⟩ := h
    rfl
  · obtain ⟨p, y, a, b, c, d, rfl, ⟨dx, hp⟩, hN, ba, bb, bc, bd, k⟩ := h
    have ft := shf_top a b
    have fb := shf_bottom a b
    refine ⟨_, PSs.nox (pss_cons (ps_if (pt_not (pt_val (c_fn O_is_number hr (by decide) T.g_is_number pass0 (pa_cons (pv 1) pa_nil)))) (pss_one ps_never)
  pss_nil)
  (pss_cons (ps_asg (c_fn O_parts hr (by decide) T.g_parts pass0 (pa_cons (pv 1) pa_nil)) (pg_tup rfl (pgs_cons (pg_name (i := 2) sc_Share_le.nd rfl (Or.inl rfl)) (pgs_cons (pg_name (i := 3) sc_Share_le.nd rfl (Or.inl rfl)) pgs_nil))))
  (pss_one (ps_ret (pe_cmpR op_le (pe_op op_mulW (pe_fld (pv 0) rfl) (pv 3)) (pe_op op_mulW (pv 2) (pe_fld (pv 0) rfl)) (nomark _)))))), ?_⟩
    refine ⟨_, rfl, y, rfl, .inl ⟨⟨c, d, hN⟩, true, rfl, iteF ?_⟩⟩
    refine ⟨_, rfl, y, c, d, rfl, hN, fun t nt => ?_⟩
    have st := same_new (o := .tup [.int c, .int d]) nt
    have hp' := st _ _ hp
    refine ⟨t, _, rfl, SqT.of upd_same, rfl, _, _, rfl, _, _, rfl, rfl, ?_⟩
    refine ⟨_, rfl, p, _, dx, _, _, rfl, hp', T.c_Share, T.nT, ft, _, rfl, a, d, rfl, rfl, ba.wm bd (by decide) (by decide) (by decide), _, rfl, _, rfl, p, _, dx, _, _, rfl, hp', T.c_Share, T.nB, fb, c, b, rfl, rfl, bc.wm bb (by decide) (by decide) (by decide), ?_⟩
    exact ⟨_, _, rfl, rfl, k _ st⟩
abbrev s_Share_gt : Stmt := inClass (top 8) 15
theorem sc_Share_gt : FnScope ["self", "other", "top", "bottom"] ["self", "other"] (defScope s_Share_gt) := ⟨rfl, rfl, rfl, by decide +kernel, rfl, by decide +kernel, by decide +kernel⟩
-- slots: 0 self, 1 other, 2 top, 3 bottom
theorem ok_Share_gt {fd : FuncData} (F : FnD K ("Share", some "__gt__") "__gt__" "Share.__gt__" s_Share_gt fd) (T : STxt K mg) (O_is_number : OkF P w K mg base CX0 2 "is_number" ["x"] (spIsNum (CS K))) (O_parts : OkF P w K mg base CX0 1 "parts" ["number"] (spParts (CS K))) : OkM P w K mg base CX0 3 "__gt__" ["self", "other"] (spCm (CS K) fGt) := by
  refine okd F (F.ok sc_Share_gt (fun vs H Q E h => ?_) fun cdv A outer s H vs Q E hr h => ?_) fun _ _ _ _ _ _ us hl => match us, hl with | [_, _], _ => rfl
  · obtain ⟨p, y, a, b, c, d, rfl, _⟩ := h
    rfl
  · obtain ⟨p, y, a, b, c, d, rfl, ⟨dx, hp⟩, hN, ba, bb, bc, bd, k⟩ := h
    have ft := shf_top a b
    have fb := shf_bottom a b
    refine ⟨_, PSs.nox (pss_cons (ps_if (pt_not (pt_val (c_fn O_is_number hr (by decide) T.g_is_number pass0 (pa_cons (pv 1) pa_nil)))) (pss_one ps_never)
  pss_nil)
  (pss_cons (ps_asg (c_fn O_parts hr (by decide) T.g_parts pass0 (pa_cons (pv 1) pa_nil)) (pg_tup rfl (pgs_cons (pg_name (i := 2) sc_Share_gt.nd rfl (Or.inl rfl)) (pgs_cons (pg_name (i := 3) sc_Share_gt.nd rfl (Or.inl rfl)) pgs_nil))))
  (pss_one (ps_ret (pe_cmpR op_gt (pe_op op_mulW (pe_fld (pv 0) rfl) (pv 3)) (pe_op op_mulW (pv 2) (pe_fld (pv 0) rfl)) (nomark _)))))), ?_⟩
    refine ⟨_, rfl, y, rfl, .inl ⟨⟨c, d, hN⟩, true, rfl, iteF ?_⟩⟩
    refine ⟨_, rfl, y, c, d, rfl, hN, fun t nt => ?_⟩
    have st := same_new (o := .tup [.int c, .int d]) nt
    have hp' := st _ _ hp
    refine ⟨t, _, rfl, SqT.of upd_same, rfl, _, _, rfl, _, _, rfl, rfl, ?_⟩
    refine ⟨_, rfl, p, _, dx, _, _, rfl, hp', T.c_Share, T.nT, ft, _, rfl, a, d, rfl, rfl, ba.wm bd (by decide) (by decide) (by decide), _, rfl, _, rfl, p, _, dx, _, _, rfl, hp', T.c_Share, T.nB, fb, c, b, rfl, rfl, bc.wm bb (by decide) (by decide) (by decide), ?_⟩
    exact ⟨_, _, rfl, rfl, k _ st⟩
abbrev s_Share_ge : Stmt := inClass (top 8) 16
theorem sc_Share_ge : FnScope ["self", "other", "top", "bottom"] ["self", "other"] (defScope s_Share_ge) := ⟨rfl, rfl, rfl, by decide +kernel, rfl, by decide +kernel, by decide +kernel⟩
-- slots: 0 self, 1 other, 2 top, 3 bottom
theorem ok_Share_ge {fd : FuncData} (F : FnD K ("Share", some "__ge__") "__ge__" "Share.__ge__" s_Share_ge fd) (T : STxt K mg) (O_is_number : OkF P w K mg base CX0 2 "is_number" ["x"] (spIsNum (CS K))) (O_parts : OkF P w K mg base CX0 1 "parts" ["number"] (spParts (CS K))) : OkM P w K mg base CX0 3 "__ge__" ["self", "other"] (spCm (CS K) fGe) := by
  refine okd F (F.ok sc_Share_ge (fun vs H Q E h => ?_) fun cdv A outer s H vs Q E hr h => ?_) fun _ _ _ _ _ _ us hl => match us, hl with | [_, _], _ => rfl
  · obtain ⟨p, y, a, b, c, d, rfl, _⟩ := h
    rfl
  · obtain ⟨p, y, a, b, c, d, rfl, ⟨dx, hp⟩, hN, ba, bb, bc, bd, k⟩ := h
    have ft := shf_top a b
    have fb := shf_bottom a b
    refine ⟨_, PSs.nox (pss_cons (ps_if (pt_not (pt_val (c_fn O_is_number hr (by decide) T.g_is_number pass0 (pa_cons (pv 1) pa_nil)))) (pss_one ps_never)
  pss_nil)
  (pss_cons (ps_asg (c_fn O_parts hr (by decide) T.g_parts pass0 (pa_cons (pv 1) pa_nil)) (pg_tup rfl (pgs_cons (pg_name (i := 2) sc_Share_ge.nd rfl (Or.inl rfl)) (pgs_cons (pg_name (i := 3) sc_Share_ge.nd rfl (Or.inl rfl)) pgs_nil))))
  (pss_one (ps_ret (pe_cmpR op_ge (pe_op op_mulW (pe_fld (pv 0) rfl) (pv 3)) (pe_op op_mulW (pv 2) (pe_fld (pv 0) rfl)) (nomark _)))))), ?_⟩
    refine ⟨_, rfl, y, rfl, .inl ⟨⟨c, d, hN⟩, true, rfl, iteF ?_⟩⟩
    refine ⟨_, rfl, y, c, d, rfl, hN, fun t nt => ?_⟩
    have st := same_new (o := .tup [.int c, .int d]) nt
    have hp' := st _ _ hp
    refine ⟨t, _, rfl, SqT.of upd_same, rfl, _, _, rfl, _, _, rfl, rfl, ?_⟩
    refine ⟨_, rfl, p, _, dx, _, _, rfl, hp', T.c_Share, T.nT, ft, _, rfl, a, d, rfl, rfl, ba.wm bd (by decide) (by decide) (by decide), _, rfl, _, rfl, p, _, dx, _, _, rfl, hp', T.c_Share, T.nB, fb, c, b, rfl, rfl, bc.wm bb (by decide) (by decide) (by decide), ?_⟩
    exact ⟨_, _, rfl, rfl, k _ st⟩
abbrev s_Share_eq : Stmt := inClass (top 8) 11
theorem sc_Share_eq : FnScope ["self", "other", "top", "bottom"] ["self", "other"] (defScope s_Share_eq) := ⟨rfl, rfl, rfl, by decide +kernel, rfl, by decide +kernel, by decide +kernel⟩
-- slots: 0 self, 1 other, 2 top, 3 bottom
theorem ok_Share_eq {fd : FuncData} (F : FnD K ("Share", some "__eq__") "__eq__" "Share.__eq__" s_Share_eq fd) (T : STxt K mg) (O_is_number : OkF P w K mg base CX0 2 "is_number" ["x"] (spIsNum (CS K))) (O_parts : OkF P w K mg base CX0 1 "parts" ["number"] (spParts (CS K))) : OkM P w K mg base CX0 3 "__eq__" ["self", "other"] (spEqs (CS K) id) := by
  refine okd F (F.ok sc_Share_eq (fun vs H Q E h => ?_) fun cdv A outer s H vs Q E hr h => ?_) fun _ _ _ _ _ _ us hl => match us, hl with | [_, _], _ => rfl
  · obtain ⟨p, y, a, b, rfl, _⟩ := h
    rfl
  · obtain ⟨p, y, a, b, rfl, ⟨dx, hp⟩, h⟩ := h
    have ft := shf_top a b
    have fb := shf_bottom a b
    refine ⟨_, PSs.nox (pss_cons (ps_if (pt_not (pt_val (c_fn O_is_number hr (by decide) T.g_is_number pass0 (pa_cons (pv 1) pa_nil)))) (pss_one (ps_ret pe_bl))
  pss_nil)
  (pss_cons (ps_asg (c_fn O_parts hr (by decide) T.g_parts pass0 (pa_cons (pv 1) pa_nil)) (pg_tup rfl (pgs_cons (pg_name (i := 2) sc_Share_eq.nd rfl (Or.inl rfl)) (pgs_cons (pg_name (i := 3) sc_Share_eq.nd rfl (Or.inl rfl)) pgs_nil))))
  (pss_one (ps_ret (pe_and (pe_cmpR op_eq (pe_fld (pv 0) rfl) (pv 2) (nomark _)) (pe_one (pe_cmpR op_eq (pe_fld (pv 0) rfl) (pv 3) (nomark _)))))))), ?_⟩
    rcases h with ⟨c, d, hN, k⟩ | ⟨o, q⟩
    · refine ⟨_, rfl, y, rfl, .inl ⟨⟨c, d, hN⟩, true, rfl, iteF ?_⟩⟩
      refine ⟨_, rfl, y, c, d, rfl, hN, fun t nt => ?_⟩
      have st := same_new (o := .tup [.int c, .int d]) nt
      have hp' := st _ _ hp
      refine ⟨t, _, rfl, SqT.of upd_same, rfl, _, _, rfl, _, _, rfl, rfl, ?_⟩
      have k' := k _ st
      refine ⟨_, rfl, p, _, dx, _, _, rfl, hp', T.c_Share, T.nT, ft, _, rfl, rfl, ?_⟩
      unfold fEq at k'
      rw [← int_dec, ← int_dec] at k'
      refine ⟨_, rfl, ?_⟩
      cases hq : decide (V.int a = V.int c) with
      | false =>
        rw [hq] at k'
        exact iteF k'
      | true =>
        rw [hq] at k'
        exact iteT ⟨_, rfl, p, _, dx, _, _, rfl, hp', T.c_Share, T.nB, fb, _, rfl, rfl, k'⟩
    · exact ⟨_, rfl, y, rfl, .inr ⟨o, false, rfl, iteT q⟩⟩
/-- o == y and o != y for an own o: y a share, an int or an odd value -/
def rEqs (C : Addr) (f : Bool → Bool) : R2 := fun x y H Q => rOO C (spEqs C f) E0 x y H Q ∨ (rOI C (spEqs C f) E0 x y H Q ∨ rOD C (spEqs C f) E0 x y H Q)
theorem op_Eqs {X : Cx} {j : Nat} (T : STxt X.K X.mg) (M : CMeth X.K) (O : OkM X.prog X.w X.K X.mg X.base CX0 3 "__eq__" ["self", "other"] (spEqs (CS X.K) id)) (hr : Room j X.A) (hj : 3 ≤ j) : OpR X (compareOp .Eq) (rEqs (CS X.K) id) :=
  opr_or (cmp_oo rfl rfl M.m_eq O hr hj pass0) (opr_or (cmp_oi rfl rfl M.m_eq T.hs O hr hj pass0) (cmp_od rfl rfl M.m_eq O hr hj pass0))
theorem rd_eqs {H : Hp} {p : Addr} {y : V} {a b : Int} {f : Bool → Bool} {Q : VK} (hp : Sh (CS K) H p a b) (h : (∃ c d, Nm (CS K) H y c d ∧ ∀ H' : Hp, Same H H' → Q (.bl (f (fEq a b c d))) H') ∨ (Odd H y ∧ Q (.bl (f false)) H)) : rEqs (CS K) f (.ref p) y H Q := by
  obtain ⟨dx, hq⟩ := id hp
  rcases h with ⟨c, d, hN, k⟩ | ⟨o, q⟩
  · rcases id hN with ⟨p', rfl, dx', hp'⟩ | ⟨rfl, rfl⟩
    · exact .inl ⟨p, p', dx, dx', _, _, rfl, rfl, hq, hp', p, _, a, b, rfl, hp, .inl ⟨c, d, hN, k⟩⟩
    · exact .inr (.inl ⟨p, c, dx, _, rfl, rfl, hq, p, _, a, b, rfl, hp, .inl ⟨c, 1, hN, k⟩⟩)
  · exact .inr (.inr ⟨p, dx, _, rfl, hq, o, p, _, a, b, rfl, hp, .inr ⟨o, q⟩⟩)
abbrev s_Share_ne : Stmt := inClass (top 8) 12
theorem sc_Share_ne : FnScope ["self", "other"] ["self", "other"] (defScope s_Share_ne) := ⟨rfl, rfl, rfl, by decide +kernel, rfl, by decide +kernel, by decide +kernel⟩
-- slots: 0 self, 1 other
theorem ok_Share_ne {fd : FuncData} (F : FnD K ("Share", some "__ne__") "__ne__" "Share.__ne__" s_Share_ne fd) (T : STxt K mg) (M : CMeth K) (O_eq : OkM P w K mg base CX0 3 "__eq__" ["self", "other"] (spEqs (CS K) id)) : OkM P w K mg base CX0 4 "__ne__" ["self", "other"] (spEqs (CS K) not) := by
  refine okd F (F.ok sc_Share_ne (fun vs H Q E h => ?_) fun cdv A outer s H vs Q E hr h => ?_) fun _ _ _ _ _ _ us hl => match us, hl with | [_, _], _ => rfl
  · obtain ⟨p, y, a, b, rfl, _⟩ := h
    rfl
  · obtain ⟨p, y, a, b, rfl, hs, h⟩ := h
    refine ⟨_, PSs.nox (pss_one (ps_ret (pe_not (pe_cmpR (op_Eqs T M O_eq hr (by decide)) (pv 0) (pv 1) (nomark _))))), ?_⟩
    refine ⟨_, rfl, _, rfl, rd_eqs hs ?_⟩
    rcases h with ⟨c, d, hN, k⟩ | ⟨o, q⟩
    · exact .inl ⟨c, d, hN, fun H' s => ⟨_, rfl, k H' s⟩⟩
    · exact .inr ⟨o, ⟨_, rfl, q⟩⟩
end
end K3

set_option Elab.async false
set_option linter.all false
set_option maxRecDepth 100000
set_option maxHeartbeats 2000000
namespace K3
open PySem PySem.Spec PyProof.Rows L2 Vf
section
variable {P : Program} {w : World} {K : PySem.W.Frag} {mg : Str → Option Value} {base : Heap}
structure Txt (K : PySem.W.Frag) (mg : Str → Option Value) : Prop extends STxt K mg where
  z_len : mg "len" = none
  z_range : mg "range" = none
  g_law_cell : mg "_law_cell" = some (.ref (He.ga K "_law_cell"))
  g_law_take : mg "_law_take" = some (.ref (He.ga K "_law_take"))
  g_law_compared : mg "_law_compared" = some (.ref (He.ga K "_law_compared"))
  g_law_due : mg "_law_due" = some (.ref (He.ga K "_law_due"))
  g_law_flags_fit : mg "_law_flags_fit" = some (.ref (He.ga K "_law_flags_fit"))
abbrev s_law_take : Stmt := top 13
theorem sc_law_take : FnScope ["_law_draw", "_law_size", "_law_taken"] ["_law_draw", "_law_size"] (defScope s_law_take) := ⟨rfl, rfl, rfl, by decide +kernel, rfl, by decide +kernel, by decide +kernel⟩
-- slots: 0 _law_draw, 1 _law_size, 2 _law_taken
theorem ok_law_take {fd : FuncData} (F : FnD K ("_law_take", none) "_law_take" "_law_take" s_law_take fd) (T : Txt K mg) : OkF P w K mg base CX0 1 "_law_take" ["_law_draw", "_law_size"] spTake := by
  refine okd F (F.ok sc_law_take (fun vs H Q E h => ?_) fun cdv A outer s H vs Q E hr h => ?_) fun _ _ _ _ _ _ us hl => match us, hl with | [_, _], _ => rfl
  · obtain ⟨d, n, s, rfl, _⟩ := h
    rfl
  · obtain ⟨d, n, s, rfl, hd, s0, s1, q⟩ := h
    refine ⟨_, PSs.nox (pss_cons (ps_set (i := 2) sc_law_take.nd rfl (Or.inl rfl) (pe_op op_mod (pe_callTy call_int1 (by rfl) T.z_int (by decide +kernel) (pa_cons (pe_ix ix_list (pv 0) pe_int (fun _ _ => rfl)) pa_nil)) (pv 1)))
  (pss_cons (ps_asg (pe_op op_fdiv (pe_ix ix_list (pv 0) pe_int (fun _ _ => rfl)) (pv 1)) (pg_sub (pv 0) pe_int set_list))
  (pss_one (ps_ret (pv 2))))), ?_⟩
    refine ⟨_, rfl, d, [.int n], 0, .int n, rfl, rfl, SqL.of hd, atI0, .inl ⟨n, rfl, _, rfl, n, s, rfl, rfl, s0, ?_⟩⟩
    refine ⟨_, rfl, d, [.int n], 0, .int n, rfl, rfl, SqL.of hd, atI0, _, rfl, n, s, rfl, rfl, ⟨s0, s1⟩, ?_⟩
    refine ⟨_, rfl, d, [.int n], 0, 0, rfl, rfl, hd, ixN0, _, rfl, ?_⟩
    exact q (n % s) (n / s) (Int.emod_nonneg n (by omega)) (Int.emod_lt_of_pos n s0)
abbrev s_law_cell : Stmt := top 12
theorem sc_law_cell : FnScope ["_law_script", "_law_k", "_law_cell_here", "_law_number", "_law_total", "_law_step"] ["_law_script", "_law_k"] (defScope s_law_cell) := ⟨rfl, rfl, rfl, by decide +kernel, rfl, by decide +kernel, by decide +kernel⟩
-- slots: 0 _law_script, 1 _law_k, 2 _law_cell_here, 3 _law_number, 4 _law_total, 5 _law_step
theorem ok_law_cell {fd : FuncData} (F : FnD K ("_law_cell", none) "_law_cell" "_law_cell" s_law_cell fd) (T : Txt K mg) : OkF P w K mg base CX0 1 "_law_cell" ["_law_script", "_law_k"] (Vf.spCell K) := by
  refine okd F (F.ok sc_law_cell (fun vs H Q E h => ?_) fun cdv A outer s H vs Q E hr h => ?_) fun _ _ _ _ _ _ us hl => match us, hl with | [_, _], _ => rfl
  · obtain ⟨l, ns, j, rfl, _⟩ := h
    rfl
  · obtain ⟨l, ns, j, rfl, hS, hj, q⟩ := h
    refine ⟨_, PSs.nox (pss_cons (ps_set (i := 2) sc_law_cell.nd rfl (Or.inl rfl) pe_int)
  (C8.pss_cut (ps_if (pt_cmpR op_lt (pv 1) (pe_callB call_len_seq (by rfl) T.z_len (by decide +kernel) (pa_cons (pv 0) pa_nil)) (nomark _)) (pss_one (ps_set (i := 2) sc_law_cell.nd rfl (Or.inl rfl) (pe_ix ix_list (pv 0) (pv 1) (fun _ _ => rfl))))
  pss_nil)
  (pss_cons (ps_if (pt_cmpR op_ge (pv 2) (pe_op op_pow pe_int pe_int) (nomark _)) (pss_one (ps_ret (pv 2)))
  pss_nil)
  (pss_cons (ps_set (i := 3) sc_law_cell.nd rfl (Or.inl rfl) (pe_op op_mod (pe_callTy call_int1 (by rfl) T.z_int (by decide +kernel) (pa_cons (pe_op op_add (pe_op op_add (pe_op op_mul (pv 2) pe_int) (pe_op op_mul (pv 1) pe_int)) pe_int) pa_nil)) pe_int))
  (pss_cons (ps_set (i := 4) sc_law_cell.nd rfl (Or.inl rfl) pe_int)
  (pss_cons (ps_for PassesOwn.never rfl (pi_range1 rfl T.z_range (pa_cons pe_int pa_nil)) (pg_name (i := 5) sc_law_cell.nd rfl (Or.inl rfl))
  (pss_cons (ps_set (i := 3) sc_law_cell.nd rfl (Or.inl rfl) (pe_op op_mod (pe_callTy call_int1 (by rfl) T.z_int (by decide +kernel) (pa_cons (pe_op op_add (pe_op op_add (pe_op op_mul (pv 3) pe_int) (pe_op op_mul (pv 5) pe_int)) pe_int) pa_nil)) pe_int))
  (pss_cons (ps_set (i := 3) sc_law_cell.nd rfl (Or.inl rfl) (pe_op op_mod (pe_callTy call_int1 (by rfl) T.z_int (by decide +kernel) (pa_cons (pe_op op_mul (pv 3) (pe_op op_add (pe_op op_fdiv (pv 3) pe_int) pe_int)) pa_nil)) pe_int))
  (pss_one (ps_set (i := 4) sc_law_cell.nd rfl (Or.inl rfl) (pe_op op_add (pe_op op_mul (pv 4) pe_int) (pv 3)))))))
  (pss_one (ps_ret (pv 4))))))))), ?_⟩
    refine ⟨fun σ' H' => H' = H ∧ ∃ c : Int, σ' = [some (.ref l), some (.int (j : Int)), some (.int c), none, none, none], ?_, ?_⟩
    · refine ⟨_, rfl, _, rfl, l, _, rfl, .inl hS, _, _, rfl, rfl, _, rfl, ite2 (fun hlt => ?_) fun _ => ⟨rfl, 0, rfl⟩⟩
      have hj2 : j < ns.length := by
        have := of_decide_eq_true hlt
        rw [List.length_map] at this
        omega
      refine ⟨_, rfl, _, rfl, l, _, (j : Int), .int ns[j], rfl, rfl, hS, atI_nat ?_, rfl, _, rfl⟩
      rw [List.getElem?_map, List.getElem?_eq_getElem hj2]
      rfl
    rintro σ' H' ⟨rfl, c, rfl⟩
    refine ⟨_, rfl, 10, 18, rfl, rfl, ⟨by decide, by decide, by decide⟩, _, _, rfl, rfl, _, rfl, ite2 (fun _ => ⟨_, rfl, q c⟩) fun _ => ?_⟩
    refine ⟨_, rfl, c, 7, rfl, rfl, .inr ⟨by decide, by decide⟩, _, rfl, (j : Int), 7919, rfl, rfl, .inr ⟨by decide, by decide⟩, _, _, rfl, rfl, _, _, rfl, rfl, .inl ⟨_, rfl, _, 2147483647, rfl, rfl, (by show (0 : Int) < 2147483647; decide), ?_⟩⟩
    refine ⟨8, rfl, by decide, by decide, for_range (lo := 0) (n := 8) (fun i σ H1 => H1 = H' ∧ ∃ (num tot : Int) (v : Option V), 0 ≤ num ∧ num < 2147483647 ∧ σ = [some (.ref l), some (.int (j : Int)), some (.int c), some (.int num), some (.int tot), v]) ?_ ?_ ?_⟩
    · exact ⟨rfl, _, 0, none, Int.emod_nonneg _ (by decide), Int.emod_lt_of_pos _ (by decide), rfl⟩
    · rintro i σ H1 hi ⟨rfl, num, tot, v, h0, h1, rfl⟩
      refine ⟨_, rfl, num, 48271, rfl, rfl, .inr ⟨by decide, by decide⟩, _, rfl, _, 30103, rfl, rfl, .inr ⟨by decide, by decide⟩, _, _, rfl, rfl, _, 11, rfl, rfl, .inl ⟨_, rfl, _, 2147483647, rfl, rfl, (by show (0 : Int) < 2147483647; decide), ?_⟩⟩
      have b0 := Int.emod_nonneg (num * 48271 + (0 + (i : Int)) * 30103 + 11) (b := 2147483647) (by decide)
      have b1 := Int.emod_lt_of_pos (num * 48271 + (0 + (i : Int)) * 30103 + 11) (b := 2147483647) (by decide)
      refine ⟨_, rfl, _, rfl, _, 1009, rfl, rfl, ⟨by decide, by decide⟩, _, 69621, rfl, rfl, _, _, rfl, rfl, .inl ⟨by omega, by omega⟩, .inl ⟨_, rfl, _, 2147483629, rfl, rfl, (by show (0 : Int) < 2147483629; decide), ?_⟩⟩
      refine ⟨_, rfl, tot, 2147483629, rfl, rfl, .inr ⟨by decide, by decide⟩, _, rfl, _, _, rfl, rfl, ?_⟩
      exact ⟨rfl, _, _, _, Int.emod_nonneg _ (by decide), Int.lt_trans (Int.emod_lt_of_pos _ (by decide)) (by decide), rfl⟩
    · rintro σ H1 ⟨rfl, num, tot, v, h0, h1, rfl⟩
      exact ⟨_, rfl, q tot⟩
/-- all but what stands at d is as it was -/
def SameX (d : Addr) (H H' : Hp) : Prop := ∀ b o, b ≠ d → H b = some o → H' b = some o
theorem SameX.trans {d : Addr} {H H1 H2 : Hp} (a : SameX d H H1) (b : SameX d H1 H2) : SameX d H H2 := fun c o n h => b c o n (a c o n h)
theorem same_x {d : Addr} {H H' : Hp} (s : Same H H') : SameX d H H' := fun b o _ h => s b o h
theorem SameX.upd {d : Addr} {H : Hp} {o : HO} : SameX d H (upd H d o) := fun b u n h => by rw [upd_ne n]; exact h
/-- the script is read whatever the draws do -/
def Scr (K : PySem.W.Frag) (d l : Addr) (ns : List Int) (H : Hp) : Prop := ∀ H', SameX d H H' → SqL K H' l (ns.map V.int)
theorem Scr.to {d l : Addr} {ns : List Int} {H H' : Hp} (h : Scr K d l ns H) (s : SameX d H H') : Scr K d l ns H' := fun H2 s2 => h H2 (s.trans s2)
theorem nC_one (t : Int) : nC t 1 = 1 := by
  unfold nC nG
  rw [if_neg (by decide), show (1 : Int).natAbs = 1 from rfl, Nat.gcd_one_right]
  rfl
theorem nT_one (t : Int) : nT t 1 = t := by
  have h := nT_mul t 1
  rw [nC_one, Int.mul_one] at h
  exact h
theorem nB_one (t : Int) : nB t 1 = 1 := by
  have h := nB_mul t 1
  rw [nC_one, Int.mul_one] at h
  exact h
/-- x is c over d, y is e over f, not two ints -/
structure Two (C : Addr) (H : Hp) (x y : V) (c d e f : Int) : Prop where
  nx : Nm C H x c d
  ny : Nm C H y e f
  o : (∃ p, x = .ref p) ∨ ∃ p, y = .ref p
  d0 : 0 < d
  f0 : 0 < f
  bc : Bit 100 c
  bd : Bit 100 d
  be : Bit 100 e
  bf : Bit 100 f
theorem Two.ext {C : Addr} {H H' : Hp} {x y : V} {c d e f : Int} (h : Two C H x y c d e f) (s : Same H H') : Two C H' x y c d e f := ⟨h.nx.ext s, h.ny.ext s, h.o, h.d0, h.f0, h.bc, h.bd, h.be, h.bf⟩
theorem Two.three {C : Addr} {H : Hp} {x y : V} {c d e f : Int} (h : Two C H x y c d e f) : (∃ p q dx dy, x = .ref p ∧ y = .ref q ∧ H p = some (.ins C dx (shf c d)) ∧ H q = some (.ins C dy (shf e f))) ∨ (∃ p dx, x = .ref p ∧ y = .int e ∧ f = 1 ∧ H p = some (.ins C dx (shf c d))) ∨ (∃ q dy, x = .int c ∧ d = 1 ∧ y = .ref q ∧ H q = some (.ins C dy (shf e f))) := by
  obtain ⟨hx, hy, ho, _⟩ := h
  rcases hx with ⟨p, rfl, dx, hp⟩ | ⟨rfl, rfl⟩
  · rcases hy with ⟨q, rfl, dy, hq⟩ | ⟨rfl, rfl⟩
    · exact .inl ⟨p, q, dx, dy, rfl, rfl, hp, hq⟩
    · exact .inr (.inl ⟨p, dx, rfl, rfl, rfl, hp⟩)
  · rcases hy with ⟨q, rfl, dy, hq⟩ | ⟨rfl, rfl⟩
    · exact .inr (.inr ⟨q, dy, rfl, rfl, rfl, hq⟩)
    · rcases ho with ⟨p, e⟩ | ⟨p, e⟩ <;> cases e

theorem fEq_symm (a b c d : Int) : fEq a b c d = fEq c d a b := by
  unfold fEq
  rw [show decide (a = c) = decide (c = a) from decide_eq_decide.mpr ⟨Eq.symm, Eq.symm⟩, show decide (b = d) = decide (d = b) from decide_eq_decide.mpr ⟨Eq.symm, Eq.symm⟩]
def rEqW (K : PySem.W.Frag) : R2 := fun x y H Q => rEqs (CS K) id x y H Q ∨ (rIO (CS K) (spEqs (CS K) id) E0 x y H Q ∨ rDO (CS K) (spEqs (CS K) id) E0 x y H Q)
def rNeW (K : PySem.W.Frag) : R2 := fun x y H Q => rEqs (CS K) not x y H Q ∨ rIO (CS K) (spEqs (CS K) not) E0 x y H Q
def rCmW (K : PySem.W.Frag) (f g : Int → Int → Int → Int → Bool) : R2 := fun x y H Q => rOO (CS K) (spCm (CS K) f) E0 x y H Q ∨ (rOI (CS K) (spCm (CS K) f) E0 x y H Q ∨ rIO (CS K) (spCm (CS K) g) E0 x y H Q)
section
variable {X : Cx} {j : Nat}
theorem op_EqW (T : STxt X.K X.mg) (M : CMeth X.K) (O : OkM X.prog X.w X.K X.mg X.base CX0 3 "__eq__" ["self", "other"] (spEqs (CS X.K) id)) (hr : Room j X.A) (hj : 3 ≤ j) : OpR X (compareOp .Eq) (rEqW X.K) :=
  opr_or (op_Eqs T M O hr hj) (opr_or (cmp_io rfl rfl M.m_eq T.hi PySem.F.slot_int_eq PySem.F.entry_int_eq PySem.F.args_int_eq_2 (decl_bin _ _ _) O hr hj pass0) (eq_do M.m_eq M.km O hr hj pass0))
theorem op_NeW (T : STxt X.K X.mg) (M : CMeth X.K) (O : OkM X.prog X.w X.K X.mg X.base CX0 4 "__ne__" ["self", "other"] (spEqs (CS X.K) not)) (hr : Room j X.A) (hj : 4 ≤ j) : OpR X (compareOp .NotEq) (rNeW X.K) :=
  opr_or (opr_or (cmp_oo rfl rfl M.m_ne O hr hj pass0) (opr_or (cmp_oi rfl rfl M.m_ne T.hs O hr hj pass0) (cmp_od rfl rfl M.m_ne O hr hj pass0))) (cmp_io rfl rfl M.m_ne T.hi PySem.F.slot_int_ne PySem.F.entry_int_ne PySem.F.args_int_ne_2 (decl_bin _ _ _) O hr hj pass0)
theorem op_LtW (T : STxt X.K X.mg) (M : CMeth X.K) (O : OkM X.prog X.w X.K X.mg X.base CX0 3 "__lt__" ["self", "other"] (spCm (CS X.K) fLt)) (O' : OkM X.prog X.w X.K X.mg X.base CX0 3 "__gt__" ["self", "other"] (spCm (CS X.K) fGt)) (hr : Room j X.A) (hj : 3 ≤ j) : OpR X (compareOp .Lt) (rCmW X.K fLt fGt) :=
  opr_or (cmp_oo rfl rfl M.m_lt O hr hj pass0) (opr_or (cmp_oi rfl rfl M.m_lt T.hs O hr hj pass0) (cmp_io rfl rfl M.m_gt T.hi PySem.F.slot_int_lt PySem.F.entry_int_lt PySem.F.args_int_lt_2 (decl_bin _ _ _) O' hr hj pass0))
theorem op_LeW (T : STxt X.K X.mg) (M : CMeth X.K) (O : OkM X.prog X.w X.K X.mg X.base CX0 3 "__le__" ["self", "other"] (spCm (CS X.K) fLe)) (O' : OkM X.prog X.w X.K X.mg X.base CX0 3 "__ge__" ["self", "other"] (spCm (CS X.K) fGe)) (hr : Room j X.A) (hj : 3 ≤ j) : OpR X (compareOp .LtE) (rCmW X.K fLe fGe) :=
  opr_or (cmp_oo rfl rfl M.m_le O hr hj pass0) (opr_or (cmp_oi rfl rfl M.m_le T.hs O hr hj pass0) (cmp_io rfl rfl M.m_ge T.hi PySem.F.slot_int_le PySem.F.entry_int_le PySem.F.args_int_le_2 (decl_bin _ _ _) O' hr hj pass0))
theorem op_GtW (T : STxt X.K X.mg) (M : CMeth X.K) (O : OkM X.prog X.w X.K X.mg X.base CX0 3 "__gt__" ["self", "other"] (spCm (CS X.K) fGt)) (O' : OkM X.prog X.w X.K X.mg X.base CX0 3 "__lt__" ["self", "other"] (spCm (CS X.K) fLt)) (hr : Room j X.A) (hj : 3 ≤ j) : OpR X (compareOp .Gt) (rCmW X.K fGt fLt) :=
  opr_or (cmp_oo rfl rfl M.m_gt O hr hj pass0) (opr_or (cmp_oi rfl rfl M.m_gt T.hs O hr hj pass0) (cmp_io rfl rfl M.m_lt T.hi PySem.F.slot_int_gt PySem.F.entry_int_gt PySem.F.args_int_gt_2 (decl_bin _ _ _) O' hr hj pass0))
theorem op_GeW (T : STxt X.K X.mg) (M : CMeth X.K) (O : OkM X.prog X.w X.K X.mg X.base CX0 3 "__ge__" ["self", "other"] (spCm (CS X.K) fGe)) (O' : OkM X.prog X.w X.K X.mg X.base CX0 3 "__le__" ["self", "other"] (spCm (CS X.K) fLe)) (hr : Room j X.A) (hj : 3 ≤ j) : OpR X (compareOp .GtE) (rCmW X.K fGe fLe) :=
  opr_or (cmp_oo rfl rfl M.m_ge O hr hj pass0) (opr_or (cmp_oi rfl rfl M.m_ge T.hs O hr hj pass0) (cmp_io rfl rfl M.m_le T.hi PySem.F.slot_int_ge PySem.F.entry_int_ge PySem.F.args_int_ge_2 (decl_bin _ _ _) O' hr hj pass0))
end
theorem rd_cm {H : Hp} {x y : V} {c d e f : Int} {Q : VK} {F G : Int → Int → Int → Int → Bool} (h : Two (CS K) H x y c d e f) (hg : ∀ a b c, G a b c 1 = F c 1 a b) (k : ∀ H' : Hp, Same H H' → Q (.bl (F c d e f)) H') : rCmW K F G x y H Q := by
  rcases h.three with ⟨p, q, dx, dy, rfl, rfl, hp, hq⟩ | ⟨p, dx, rfl, rfl, rfl, hp⟩ | ⟨q, dy, rfl, rfl, rfl, hq⟩
  · exact .inl ⟨p, q, dx, dy, _, _, rfl, rfl, hp, hq, p, _, c, d, e, f, rfl, ⟨dx, hp⟩, .inl ⟨q, rfl, dy, hq⟩, h.bc.mono (by decide), h.bd.mono (by decide), h.be.mono (by decide), h.bf.mono (by decide), k⟩
  · exact .inr (.inl ⟨p, e, dx, _, rfl, rfl, hp, p, _, c, d, e, 1, rfl, ⟨dx, hp⟩, .inr ⟨rfl, rfl⟩, h.bc.mono (by decide), h.bd.mono (by decide), h.be.mono (by decide), h.bf.mono (by decide), k⟩)
  · refine .inr (.inr ⟨c, q, dy, _, rfl, rfl, hq, q, _, e, f, c, 1, rfl, ⟨dy, hq⟩, .inr ⟨rfl, rfl⟩, h.be.mono (by decide), h.bf.mono (by decide), h.bc.mono (by decide), h.bd.mono (by decide), fun H' s => ?_⟩)
    rw [hg]
    exact k H' s
theorem rd_eq {H : Hp} {x y : V} {c d e f : Int} {Q : VK} (h : Two (CS K) H x y c d e f) (k : ∀ H' : Hp, Same H H' → Q (.bl (fEq c d e f)) H') : rEqW K x y H Q := by
  rcases h.three with ⟨p, q, dx, dy, rfl, rfl, hp, hq⟩ | ⟨p, dx, rfl, rfl, rfl, hp⟩ | ⟨q, dy, rfl, rfl, rfl, hq⟩
  · exact .inl (rd_eqs ⟨dx, hp⟩ (.inl ⟨e, f, .inl ⟨q, rfl, dy, hq⟩, k⟩))
  · exact .inl (rd_eqs ⟨dx, hp⟩ (.inl ⟨e, 1, .inr ⟨rfl, rfl⟩, k⟩))
  · refine .inr (.inl ⟨c, q, dy, _, rfl, rfl, hq, q, _, e, f, rfl, ⟨dy, hq⟩, .inl ⟨c, 1, .inr ⟨rfl, rfl⟩, fun H' s => ?_⟩⟩)
    show Q (.bl (fEq e f c 1)) H'
    rw [fEq_symm]
    exact k H' s
theorem rd_ne {H : Hp} {x y : V} {c d e f : Int} {Q : VK} (h : Two (CS K) H x y c d e f) (k : ∀ H' : Hp, Same H H' → Q (.bl (!fEq c d e f)) H') : rNeW K x y H Q := by
  rcases h.three with ⟨p, q, dx, dy, rfl, rfl, hp, hq⟩ | ⟨p, dx, rfl, rfl, rfl, hp⟩ | ⟨q, dy, rfl, rfl, rfl, hq⟩
  · exact .inl (rd_eqs ⟨dx, hp⟩ (.inl ⟨e, f, .inl ⟨q, rfl, dy, hq⟩, k⟩))
  · exact .inl (rd_eqs ⟨dx, hp⟩ (.inl ⟨e, 1, .inr ⟨rfl, rfl⟩, k⟩))
  · refine .inr ⟨c, q, dy, _, rfl, rfl, hq, q, _, e, f, rfl, ⟨dy, hq⟩, .inl ⟨c, 1, .inr ⟨rfl, rfl⟩, fun H' s => ?_⟩⟩
    show Q (.bl (!fEq e f c 1)) H'
    rw [fEq_symm]
    exact k H' s
abbrev s_law_compared : Stmt := top 14
theorem sc_law_compared : FnScope ["_law_x", "_law_y"] ["_law_x", "_law_y"] (defScope s_law_compared) := ⟨rfl, rfl, rfl, by decide +kernel, rfl, by decide +kernel, by decide +kernel⟩
-- slots: 0 _law_x, 1 _law_y
/-- the six flags -/
def sixF (c d e f : Int) : List V := [.bl (fEq c d e f), .bl (!fEq c d e f), .bl (decide (c * f < e * d)), .bl (decide (c * f ≤ e * d)), .bl (decide (e * d < c * f)), .bl (decide (e * d ≤ c * f))]
def sixI (l r : Int) : List V := [.bl (decide (l = r)), .bl (!decide (l = r)), .bl (decide (l < r)), .bl (decide (l ≤ r)), .bl (decide (r < l)), .bl (decide (r ≤ l))]
def spLc (C : Addr) : Sp := fun vs H Q _ => ∃ (x y : V) (c d e f : Int), vs = [x, y] ∧ Two C H x y c d e f ∧ ∀ (H' : Hp) (t : Addr), Same H H' → H' t = some (.lst (sixF c d e f)) → Q (.ref t) H'
theorem ok_law_compared {fd : FuncData} (F : FnD K ("_law_compared", none) "_law_compared" "_law_compared" s_law_compared fd) (T : Txt K mg) (M : CMeth K) (O_eq : OkM P w K mg base CX0 3 "__eq__" ["self", "other"] (spEqs (CS K) id)) (O_ne : OkM P w K mg base CX0 4 "__ne__" ["self", "other"] (spEqs (CS K) not))
    (O_lt : OkM P w K mg base CX0 3 "__lt__" ["self", "other"] (spCm (CS K) fLt)) (O_le : OkM P w K mg base CX0 3 "__le__" ["self", "other"] (spCm (CS K) fLe)) (O_gt : OkM P w K mg base CX0 3 "__gt__" ["self", "other"] (spCm (CS K) fGt)) (O_ge : OkM P w K mg base CX0 3 "__ge__" ["self", "other"] (spCm (CS K) fGe)) : OkF P w K mg base CX0 5 "_law_compared" ["_law_x", "_law_y"] (spLc (CS K)) := by
  refine okd F (F.ok sc_law_compared (fun vs H Q E h => ?_) fun cdv A outer s H vs Q E hr h => ?_) fun _ _ _ _ _ _ us hl => match us, hl with | [_, _], _ => rfl
  · obtain ⟨x, y, c, d, e, f, rfl, _⟩ := h
    rfl
  · obtain ⟨x, y, c, d, e, f, rfl, h2, k⟩ := h
    refine ⟨_, PSs.nox (pss_one (ps_ret (pe_lst (pa_cons (pe_cmpR (op_EqW T.toSTxt M O_eq hr (by decide)) (pv 0) (pv 1) (nomark _)) (pa_cons (pe_cmpR (op_NeW T.toSTxt M O_ne hr (by decide)) (pv 0) (pv 1) (nomark _)) (pa_cons (pe_cmpR (op_LtW T.toSTxt M O_lt O_gt hr (by decide)) (pv 0) (pv 1) (nomark _)) (pa_cons (pe_cmpR (op_LeW T.toSTxt M O_le O_ge hr (by decide)) (pv 0) (pv 1) (nomark _)) (pa_cons (pe_cmpR (op_GtW T.toSTxt M O_gt O_lt hr (by decide)) (pv 0) (pv 1) (nomark _)) (pa_cons (pe_cmpR (op_GeW T.toSTxt M O_ge O_le hr (by decide)) (pv 0) (pv 1) (nomark _)) pa_nil))))))))), ?_⟩
    refine ⟨_, rfl, _, rfl, rd_eq h2 fun H1 s1 => ⟨_, rfl, _, rfl, rd_ne (h2.ext s1) fun H2 s2 => ⟨_, rfl, _, rfl, rd_cm (h2.ext (s1.trans s2)) (fun _ _ _ => rfl) fun H3 s3 => ⟨_, rfl, _, rfl, rd_cm (h2.ext (s1.trans (s2.trans s3))) (fun _ _ _ => rfl) fun H4 s4 => ⟨_, rfl, _, rfl, rd_cm (h2.ext (s1.trans (s2.trans (s3.trans s4)))) (fun _ _ _ => rfl) fun H5 s5 => ⟨_, rfl, _, rfl, rd_cm (h2.ext (s1.trans (s2.trans (s3.trans (s4.trans s5))))) (fun _ _ _ => rfl) fun H6 s6 => ?_⟩⟩⟩⟩⟩⟩
    exact ⟨(by show 6 ≤ sizeLine; decide), fun t nt => k _ t ((s1.trans (s2.trans (s3.trans (s4.trans (s5.trans s6))))).trans (same_new nt)) upd_same⟩
abbrev s_law_due : Stmt := top 15
theorem sc_law_due : FnScope ["_law_left", "_law_right"] ["_law_left", "_law_right"] (defScope s_law_due) := ⟨rfl, rfl, rfl, by decide +kernel, rfl, by decide +kernel, by decide +kernel⟩
-- slots: 0 _law_left, 1 _law_right
def spDue : Sp := fun vs H Q _ => ∃ l r : Int, vs = [.int l, .int r] ∧ ∀ (H' : Hp) (t : Addr), Same H H' → H' t = some (.lst (sixI l r)) → Q (.ref t) H'
theorem ok_law_due {fd : FuncData} (F : FnD K ("_law_due", none) "_law_due" "_law_due" s_law_due fd) (T : Txt K mg) : OkF P w K mg base CX0 1 "_law_due" ["_law_left", "_law_right"] spDue := by
  refine okd F (F.ok sc_law_due (fun vs H Q E h => ?_) fun cdv A outer s H vs Q E hr h => ?_) fun _ _ _ _ _ _ us hl => match us, hl with | [_, _], _ => rfl
  · obtain ⟨l, r, rfl, _⟩ := h
    rfl
  · obtain ⟨l, r, rfl, k⟩ := h
    refine ⟨_, PSs.nox (pss_one (ps_ret (pe_lst (pa_cons (pe_cmpR op_eq (pv 0) (pv 1) (nomark _)) (pa_cons (pe_cmpR op_ne (pv 0) (pv 1) (nomark _)) (pa_cons (pe_cmpR op_lt (pv 0) (pv 1) (nomark _)) (pa_cons (pe_cmpR op_le (pv 0) (pv 1) (nomark _)) (pa_cons (pe_cmpR op_gt (pv 0) (pv 1) (nomark _)) (pa_cons (pe_cmpR op_ge (pv 0) (pv 1) (nomark _)) pa_nil))))))))), ?_⟩
    refine ⟨_, rfl, _, rfl, rfl, _, rfl, _, rfl, rfl, _, rfl, _, rfl, _, _, rfl, rfl, _, rfl, _, rfl, _, _, rfl, rfl, _, rfl, _, rfl, _, _, rfl, rfl, _, rfl, _, rfl, _, _, rfl, rfl, (by show 6 ≤ sizeLine; decide), fun t nt => k _ t (same_new nt) ?_⟩
    rw [upd_same]
    unfold sixI
    rw [← int_dec]
abbrev s_law_flags_fit : Stmt := top 16
theorem sc_law_flags_fit : FnScope ["_law_found", "_law_due_here", "_law_k"] ["_law_found", "_law_due_here"] (defScope s_law_flags_fit) := ⟨rfl, rfl, rfl, by decide +kernel, rfl, by decide +kernel, by decide +kernel⟩
-- slots: 0 _law_found, 1 _law_due_here, 2 _law_k
def spFlags : Sp := fun vs H Q _ => ∃ (a b : Addr) (bs : List Bool), vs = [.ref a, .ref b] ∧ H a = some (.lst (bs.map V.bl)) ∧ H b = some (.lst (bs.map V.bl)) ∧ bs.length = 6 ∧ Q (.bl true) H
theorem ok_law_flags_fit {fd : FuncData} (F : FnD K ("_law_flags_fit", none) "_law_flags_fit" "_law_flags_fit" s_law_flags_fit fd) (T : Txt K mg) : OkF P w K mg base CX0 1 "_law_flags_fit" ["_law_found", "_law_due_here"] spFlags := by
  refine okd F (F.ok sc_law_flags_fit (fun vs H Q E h => ?_) fun cdv A outer s H vs Q E hr h => ?_) fun _ _ _ _ _ _ us hl => match us, hl with | [_, _], _ => rfl
  · obtain ⟨a, b, bs, rfl, _⟩ := h
    rfl
  · obtain ⟨a, b, bs, rfl, ha, hb, h6, q⟩ := h
    refine ⟨_, PSs.nox (pss_cons (ps_for PassesOwn.never rfl (pi_range1 rfl T.z_range (pa_cons pe_int pa_nil)) (pg_name (i := 2) sc_law_flags_fit.nd rfl (Or.inl rfl))
  (pss_one (ps_if (PW.pt (pw_or (pt_not (pt_val (pe_callB call_isi (by rfl) T.z_isinstance (by decide +kernel) (pa_cons (pe_ix ix_list (pv 0) (pv 2) (fun _ _ => rfl)) (pa_cons (pe_ty (n := "bool") T.z_bool (by decide +kernel)) pa_nil))))) (pw_or1 (pt_cmpR op_ne (pe_ix ix_list (pv 0) (pv 2) (fun _ _ => rfl)) (pe_ix ix_list (pv 1) (pv 2) (fun _ _ => rfl)) (nomark _))))) (pss_one (ps_ret pe_bl))
  pss_nil)))
  (pss_one (ps_ret pe_bl))), ?_⟩
    refine ⟨6, rfl, by decide, by decide, for_range (lo := 0) (n := 6) (fun i σ H1 => H1 = H ∧ ∃ v : Option V, σ = [some (.ref a), some (.ref b), v]) ⟨rfl, none, rfl⟩ ?_ ?_⟩
    · rintro i σ H1 hi ⟨rfl, v, rfl⟩
      have hx : i < bs.length := by omega
      have at_ : atI (bs.map V.bl) (0 + (i : Int)) = some (.bl bs[i]) := by
        rw [Int.zero_add]
        refine atI_nat ?_
        rw [List.getElem?_map, List.getElem?_eq_getElem hx]
        rfl
      refine ⟨_, rfl, _, rfl, a, _, _, _, rfl, rfl, SqL.of ha, at_, .bl bs[i], .ty "bool", .type "bool", .type "bool", true, rfl, .ty _, .base (.bl _), kit_ty (by decide +kernel), true, rfl, iteF ?_⟩
      refine ⟨_, rfl, _, rfl, a, _, _, _, rfl, rfl, SqL.of ha, at_, ?_⟩
      refine ⟨_, rfl, _, rfl, b, _, _, .bl bs[i], rfl, rfl, SqL.of hb, at_, rfl, _, rfl, ?_⟩
      rw [decide_eq_true (rfl : V.bl bs[i] = V.bl bs[i])]
      exact iteF ⟨rfl, _, rfl⟩
    · rintro σ H1 ⟨rfl, v, rfl⟩
      exact q
end
end K3

set_option Elab.async false
set_option linter.all false
set_option maxRecDepth 100000
set_option maxHeartbeats 2000000
namespace K3
open PySem PySem.Spec PyProof.Rows L2 Vf
section
variable {P : Program} {w : World} {K : PySem.W.Frag} {mg : Str → Option Value} {base : Heap}
theorem nf_cross {c d e f : Int} (n1 : Nf c d) (n2 : Nf e f) (h : c * f = e * d) : c = e ∧ d = f := by
  have p1 := n1.pos
  have p2 := n2.pos
  have hn : c.natAbs * f.natAbs = e.natAbs * d.natAbs := by rw [← Int.natAbs_mul, ← Int.natAbs_mul, h]
  have d1 : d.natAbs ∣ f.natAbs := by
    have co : Nat.Coprime d.natAbs c.natAbs := by
      rw [Nat.coprime_comm]
      exact n1.cop
    exact co.dvd_of_dvd_mul_left ⟨e.natAbs, by rw [hn, Nat.mul_comm]⟩
  have d2 : f.natAbs ∣ d.natAbs := by
    have co : Nat.Coprime f.natAbs e.natAbs := by
      rw [Nat.coprime_comm]
      exact n2.cop
    exact co.dvd_of_dvd_mul_left ⟨c.natAbs, by rw [← hn, Nat.mul_comm]⟩
  have hq := Nat.dvd_antisymm d1 d2
  have hdf : d = f := by omega
  subst hdf
  exact ⟨Int.eq_of_mul_eq_mul_right (by omega) h, rfl⟩
theorem fEq_cross {c d e f : Int} (n1 : Nf c d) (n2 : Nf e f) : fEq c d e f = decide (c * f = e * d) := by
  unfold fEq
  rw [Bool.eq_iff_iff, Bool.and_eq_true, decide_eq_true_eq, decide_eq_true_eq, decide_eq_true_eq]
  exact ⟨fun h => by rw [h.1, h.2], nf_cross n1 n2⟩
/-- c over d is what the pair A0, A1 says -/
structure Rep (c d A0 A1 : Int) : Prop where
  nf : Nf c d
  eq : c * A1 = A0 * d
  p1 : 0 < A1
theorem scale {X Y U W M N : Int} (hM : 0 < M) (hN : 0 < N) (h1 : X * M = U * N) (h2 : Y * M = W * N) : (X < Y ↔ U < W) ∧ (X = Y ↔ U = W) ∧ (X ≤ Y ↔ U ≤ W) := by
  have a : X < Y ↔ U < W := by
    constructor
    · intro h
      have h3 := Int.mul_lt_mul_of_pos_right h hM
      rw [h1, h2] at h3
      exact Int.lt_of_mul_lt_mul_right h3 (Int.le_of_lt hN)
    · intro h
      have h3 := Int.mul_lt_mul_of_pos_right h hN
      rw [← h1, ← h2] at h3
      exact Int.lt_of_mul_lt_mul_right h3 (Int.le_of_lt hM)
  have b : X = Y ↔ U = W := by
    constructor
    · intro h
      rw [h, h2] at h1
      exact (Int.eq_of_mul_eq_mul_right (Int.ne_of_gt hN) h1).symm
    · intro h
      rw [h, ← h2] at h1
      exact Int.eq_of_mul_eq_mul_right (Int.ne_of_gt hM) h1
  exact ⟨a, b, by rw [Int.le_iff_lt_or_eq, Int.le_iff_lt_or_eq, a, b]⟩
theorem six_eq {c d e f A0 A1 B0 B1 : Int} (r1 : Rep c d A0 A1) (r2 : Rep e f B0 B1) : sixF c d e f = sixI (A0 * B1) (B0 * A1) := by
  have g1 := r1.eq
  have g2 := r2.eq
  have hM : 0 < A1 * B1 := Int.mul_pos r1.p1 r2.p1
  have hN : 0 < d * f := Int.mul_pos r1.nf.pos r2.nf.pos
  have e1 : (c * f) * (A1 * B1) = (A0 * B1) * (d * f) := by grind
  have e2 : (e * d) * (A1 * B1) = (B0 * A1) * (d * f) := by grind
  obtain ⟨s1, s2, s3⟩ := scale hM hN e1 e2
  obtain ⟨t1, t2, t3⟩ := scale hM hN e2 e1
  unfold sixF sixI
  rw [fEq_cross r1.nf r2.nf, decide_eq_decide.mpr s1, decide_eq_decide.mpr s2, decide_eq_decide.mpr s3, decide_eq_decide.mpr t1, decide_eq_decide.mpr t3]
def bsI (l r : Int) : List Bool := [decide (l = r), !decide (l = r), decide (l < r), decide (l ≤ r), decide (r < l), decide (r ≤ l)]
theorem sixI_map (l r : Int) : sixI l r = (bsI l r).map V.bl := rfl
theorem rep_int (n : Int) : Rep n 1 n 1 := ⟨⟨by decide, by rw [show (1 : Int).natAbs = 1 from rfl, Nat.gcd_one_right]⟩, rfl, by decide⟩
/-- compared and due, seen by flags_fit -/
theorem flags {H : Hp} {a b : Addr} {l r : Int} {xs : List V} {Q : VK} {E : XK} (ha : H a = some (.lst xs)) (hx : xs = sixI l r) (hb : H b = some (.lst (sixI l r))) (q : Q (.bl true) H) : spFlags [.ref a, .ref b] H Q E :=
  ⟨a, b, bsI l r, rfl, by rw [ha, hx, sixI_map], by rw [hb, sixI_map], rfl, q⟩
def Pst (H3 : Hp) (a0 d la : Addr) (mode fac : Int) (σ' : L2.St) (H' : Hp) : Prop := ∃ (l : Addr) (C0 C1 : Int), σ' = [some (.ref a0), some (.ref d), some (.int mode), some (.int fac), some (.ref la), some (.ref l), none, none, none, none, none] ∧ Same H3 H' ∧ H' l = some (.lst [.int C0, .int C1]) ∧ 0 < C1 ∧ Bit 95 C0 ∧ Bit 95 C1
abbrev s_law : Stmt := top 17
theorem sc_law : FnScope ["_law_script", "_law_draw", "_law_mode", "_law_factor", "_law_a", "_law_b", "_law_x", "_law_y", "_law_near", "_law_number", "_law_other"] ["_law_script"] (defScope s_law) := ⟨rfl, rfl, rfl, by decide +kernel, rfl, by decide +kernel, by decide +kernel⟩
-- slots: 0 _law_script, 1 _law_draw, 2 _law_mode, 3 _law_factor, 4 _law_a, 5 _law_b, 6 _law_x, 7 _law_y, 8 _law_near, 9 _law_number, 10 _law_other
def spLaw (K : PySem.W.Frag) : Sp := fun vs H Q _ => ∃ (a : Addr) (ns : List Int), vs = [.ref a] ∧ SqL K H a (ns.map V.int) ∧ ns.length ≤ 63 ∧ ∀ H', Q (.bl true) H'
theorem b81 : (2 : Nat) ^ 81 = 2417851639229258349412352 := by decide
theorem ok_law {fd : FuncData} (F : FnD K ("law", none) "law" "law" s_law fd) (T : Txt K mg) (M : CMeth K) (O_law_cell : OkF P w K mg base CX0 1 "_law_cell" ["_law_script", "_law_k"] (Vf.spCell K)) (O_law_take : OkF P w K mg base CX0 1 "_law_take" ["_law_draw", "_law_size"] spTake)
    (O_law_compared : OkF P w K mg base CX0 5 "_law_compared" ["_law_x", "_law_y"] (spLc (CS K))) (O_law_due : OkF P w K mg base CX0 1 "_law_due" ["_law_left", "_law_right"] spDue) (O_law_flags_fit : OkF P w K mg base CX0 1 "_law_flags_fit" ["_law_found", "_law_due_here"] spFlags)
    (O_Share_init2 : OkD P w K mg base (L2.CX P w) 4 ("Share", some "__init__") ["self", "top", "bottom"] [] (spShI K)) (O_Share_init1 : OkD P w K mg base (L2.CX P w) 4 ("Share", some "__init__") ["self", "top", "bottom"] [.int 1] (spShI K))
    (O_eq : OkM P w K mg base CX0 3 "__eq__" ["self", "other"] (spEqs (CS K) id)) (O_ne : OkM P w K mg base CX0 4 "__ne__" ["self", "other"] (spEqs (CS K) not)) :
    FnOk P w K mg base CX0 8 (He.fAd K ("law", none)) fd ["_law_script"] (spLaw K) := by
  refine F.ok sc_law (fun vs H Q E h => ?_) fun cdv A outer s H vs Q E hr h => ?_
  · obtain ⟨a, ns, rfl, _⟩ := h
    rfl
  · obtain ⟨a0, ns, rfl, hS, hlen, k⟩ := h
    refine ⟨_, PSs.nox (pss_cons (ps_set (i := 1) sc_law.nd rfl (Or.inl rfl) (pe_lst (pa_cons (c_fn O_law_cell hr (by decide) T.g_law_cell pass0 (pa_cons (pv 0) (pa_cons pe_int pa_nil))) pa_nil)))
  (pss_cons (ps_set (i := 2) sc_law.nd rfl (Or.inl rfl) (c_fn O_law_take hr (by decide) T.g_law_take pass0 (pa_cons (pv 1) (pa_cons pe_int pa_nil))))
  (pss_cons (ps_set (i := 3) sc_law.nd rfl (Or.inl rfl) (pe_op op_add pe_int (c_fn O_law_take hr (by decide) T.g_law_take pass0 (pa_cons (pv 1) (pa_cons pe_int pa_nil)))))
  (pss_cons (ps_set (i := 4) sc_law.nd rfl (Or.inl rfl) (pe_lst (pa_cons (pe_op op_sub (pe_op op_mod (pe_callTy call_int1 (by rfl) T.z_int (by decide +kernel) (pa_cons (c_fn O_law_cell hr (by decide) T.g_law_cell pass0 (pa_cons (pv 0) (pa_cons pe_int pa_nil))) pa_nil)) (pe_op op_add (pe_op op_mulW pe_int (pe_op op_pow pe_int pe_int)) pe_int)) (pe_op op_pow pe_int pe_int)) (pa_cons (pe_op op_add pe_int (pe_op op_mod (pe_callTy call_int1 (by rfl) T.z_int (by decide +kernel) (pa_cons (c_fn O_law_cell hr (by decide) T.g_law_cell pass0 (pa_cons (pv 0) (pa_cons pe_int pa_nil))) pa_nil)) (pe_op op_pow pe_int pe_int))) pa_nil))))
  (pss_cons (ps_set (i := 5) sc_law.nd rfl (Or.inl rfl) (pe_lst (pa_cons (pe_op op_sub (pe_op op_mod (pe_callTy call_int1 (by rfl) T.z_int (by decide +kernel) (pa_cons (c_fn O_law_cell hr (by decide) T.g_law_cell pass0 (pa_cons (pv 0) (pa_cons pe_int pa_nil))) pa_nil)) (pe_op op_add (pe_op op_mulW pe_int (pe_op op_pow pe_int pe_int)) pe_int)) (pe_op op_pow pe_int pe_int)) (pa_cons (pe_op op_add pe_int (pe_op op_mod (pe_callTy call_int1 (by rfl) T.z_int (by decide +kernel) (pa_cons (c_fn O_law_cell hr (by decide) T.g_law_cell pass0 (pa_cons (pv 0) (pa_cons pe_int pa_nil))) pa_nil)) (pe_op op_pow pe_int pe_int))) pa_nil))))
  (C8.pss_cut (ps_if (pt_cmpR op_eq (pv 2) pe_int (nomark _)) (pss_one (ps_set (i := 5) sc_law.nd rfl (Or.inl rfl) (pe_lst (pa_cons (pe_op op_mulW (pe_ix ix_list (pv 4) pe_int (fun _ _ => rfl)) (pv 3)) (pa_cons (pe_op op_mulW (pe_ix ix_list (pv 4) pe_int (fun _ _ => rfl)) (pv 3)) pa_nil)))))
  pss_nil)
  (C8.pss_cut (ps_if (pt_cmpR op_eq (pv 2) pe_int (nomark _)) (pss_one (ps_set (i := 5) sc_law.nd rfl (Or.inl rfl) (pe_lst (pa_cons (pe_op op_sub (pe_op op_add (pe_ix ix_list (pv 4) pe_int (fun _ _ => rfl)) (pe_op op_mod (pv 3) pe_int)) pe_int) (pa_cons (pe_ix ix_list (pv 4) pe_int (fun _ _ => rfl)) pa_nil)))))
  pss_nil)
  (pss_cons (ps_set (i := 6) sc_law.nd rfl (Or.inl rfl) (c_mk T.m_Share O_Share_init2 hr (by decide) T.g_Share passL (pa_cons (pe_ix ix_list (pv 4) pe_int (fun _ _ => rfl)) (pa_cons (pe_ix ix_list (pv 4) pe_int (fun _ _ => rfl)) pa_nil))))
  (pss_cons (ps_set (i := 7) sc_law.nd rfl (Or.inl rfl) (c_mk T.m_Share O_Share_init2 hr (by decide) T.g_Share passL (pa_cons (pe_ix ix_list (pv 5) pe_int (fun _ _ => rfl)) (pa_cons (pe_ix ix_list (pv 5) pe_int (fun _ _ => rfl)) pa_nil))))
  (pss_cons (ps_if (pt_not (pt_val (c_fn O_law_flags_fit hr (by decide) T.g_law_flags_fit pass0 (pa_cons (c_fn O_law_compared hr (by decide) T.g_law_compared pass0 (pa_cons (pv 6) (pa_cons (pv 7) pa_nil))) (pa_cons (c_fn O_law_due hr (by decide) T.g_law_due pass0 (pa_cons (pe_op op_mulW (pe_ix ix_list (pv 4) pe_int (fun _ _ => rfl)) (pe_ix ix_list (pv 5) pe_int (fun _ _ => rfl))) (pa_cons (pe_op op_mulW (pe_ix ix_list (pv 5) pe_int (fun _ _ => rfl)) (pe_ix ix_list (pv 4) pe_int (fun _ _ => rfl))) pa_nil))) pa_nil))))) (pss_one (ps_ret pe_bl))
  pss_nil)
  (pss_cons (ps_if (pt_not (pt_val (c_fn O_law_flags_fit hr (by decide) T.g_law_flags_fit pass0 (pa_cons (c_fn O_law_compared hr (by decide) T.g_law_compared pass0 (pa_cons (pv 7) (pa_cons (pv 6) pa_nil))) (pa_cons (c_fn O_law_due hr (by decide) T.g_law_due pass0 (pa_cons (pe_op op_mulW (pe_ix ix_list (pv 5) pe_int (fun _ _ => rfl)) (pe_ix ix_list (pv 4) pe_int (fun _ _ => rfl))) (pa_cons (pe_op op_mulW (pe_ix ix_list (pv 4) pe_int (fun _ _ => rfl)) (pe_ix ix_list (pv 5) pe_int (fun _ _ => rfl))) pa_nil))) pa_nil))))) (pss_one (ps_ret pe_bl))
  pss_nil)
  (pss_cons (ps_set (i := 8) sc_law.nd rfl (Or.inl rfl) (pe_op op_fdivW (pe_callTy call_int1 (by rfl) T.z_int (by decide +kernel) (pa_cons (pe_ix ix_list (pv 4) pe_int (fun _ _ => rfl)) pa_nil)) (pe_ix ix_list (pv 4) pe_int (fun _ _ => rfl))))
  (pss_cons (ps_for PassesOwn.never rfl (pi_list (pe_lst (pa_cons (pv 8) (pa_cons (pe_op op_add (pv 8) pe_int) (pa_cons pe_int (pa_cons (c_fn O_law_take hr (by decide) T.g_law_take pass0 (pa_cons (pv 1) (pa_cons (pe_op op_pow pe_int pe_int) pa_nil))) pa_nil)))))) (pg_name (i := 9) sc_law.nd rfl (Or.inl rfl))
  (pss_cons (ps_if (pt_not (pt_val (c_fn O_law_flags_fit hr (by decide) T.g_law_flags_fit pass0 (pa_cons (c_fn O_law_compared hr (by decide) T.g_law_compared pass0 (pa_cons (pv 6) (pa_cons (pv 9) pa_nil))) (pa_cons (c_fn O_law_due hr (by decide) T.g_law_due pass0 (pa_cons (pe_ix ix_list (pv 4) pe_int (fun _ _ => rfl)) (pa_cons (pe_op op_mulW (pv 9) (pe_ix ix_list (pv 4) pe_int (fun _ _ => rfl))) pa_nil))) pa_nil))))) (pss_one (ps_ret pe_bl))
  pss_nil)
  (pss_cons (ps_if (pt_not (pt_val (c_fn O_law_flags_fit hr (by decide) T.g_law_flags_fit pass0 (pa_cons (c_fn O_law_compared hr (by decide) T.g_law_compared pass0 (pa_cons (pv 9) (pa_cons (pv 6) pa_nil))) (pa_cons (c_fn O_law_due hr (by decide) T.g_law_due pass0 (pa_cons (pe_op op_mulW (pv 9) (pe_ix ix_list (pv 4) pe_int (fun _ _ => rfl))) (pa_cons (pe_ix ix_list (pv 4) pe_int (fun _ _ => rfl)) pa_nil))) pa_nil))))) (pss_one (ps_ret pe_bl))
  pss_nil)
  (pss_one (ps_if (pt_not (pt_val (c_fn O_law_flags_fit hr (by decide) T.g_law_flags_fit pass0 (pa_cons (c_fn O_law_compared hr (by decide) T.g_law_compared pass0 (pa_cons (c_mk T.m_Share O_Share_init1 hr (by decide) T.g_Share passL (pa_cons (pv 9) pa_nil)) (pa_cons (pv 9) pa_nil))) (pa_cons (c_fn O_law_due hr (by decide) T.g_law_due pass0 (pa_cons (pv 9) (pa_cons (pv 9) pa_nil))) pa_nil))))) (pss_one (ps_ret pe_bl))
  pss_nil)))))
  (pss_cons (ps_for PassesOwn.never rfl (pi_list (pe_lst (pa_cons pe_non (pa_cons pe_str (pa_cons (pe_tup (pa_cons pe_int (pa_cons pe_int pa_nil))) (pa_cons (pe_lst (pa_cons pe_int pa_nil)) (pa_cons pe_dnewK (pa_cons pe_bl (pa_cons pe_bl pa_nil))))))))) (pg_name (i := 10) sc_law.nd rfl (Or.inl rfl))
  (pss_one (ps_if (PW.pt (pw_or (pt_cmpR (op_EqW T.toSTxt M O_eq hr (by decide)) (c_mk T.m_Share O_Share_init1 hr (by decide) T.g_Share passL (pa_cons pe_int pa_nil)) (pv 10) (nomark _)) (pw_or (pt_cmpR (op_EqW T.toSTxt M O_eq hr (by decide)) (c_mk T.m_Share O_Share_init1 hr (by decide) T.g_Share passL (pa_cons pe_int pa_nil)) (pv 10) (nomark _)) (pw_or (pt_cmpR (op_EqW T.toSTxt M O_eq hr (by decide)) (pv 10) (c_mk T.m_Share O_Share_init1 hr (by decide) T.g_Share passL (pa_cons pe_int pa_nil)) (nomark _)) (pw_or1 (pt_not (pt_cmpR (op_NeW T.toSTxt M O_ne hr (by decide)) (c_mk T.m_Share O_Share_init1 hr (by decide) T.g_Share passL (pa_cons pe_int pa_nil)) (pv 10) (nomark _)))))))) (pss_one (ps_ret pe_bl))
  pss_nil)))
  (pss_one (ps_ret (pe_cmpR op_eq (pe_cmpR (op_inB (n := 3) (EqB.or (eqB_oo M.m_eq O_eq (pass0)) (eqB_do M.m_eq M.km O_eq (pass0))) (hr.mono (by decide))) (pv 6) (pe_lst (pa_cons (pv 7) (pa_cons pe_non pa_nil))) rfl) (pe_cmpR op_eq (pe_op op_mulW (pe_ix ix_list (pv 4) pe_int (fun _ _ => rfl)) (pe_ix ix_list (pv 5) pe_int (fun _ _ => rfl))) (pe_op op_mulW (pe_ix ix_list (pv 5) pe_int (fun _ _ => rfl)) (pe_ix ix_list (pv 4) pe_int (fun _ _ => rfl))) (nomark _)) (nomark _)))))))))))))))))), ?_⟩
    refine ⟨_, rfl, a0, ns, 0, rfl, hS, by decide, fun n0 => ⟨(by show 1 ≤ sizeLine; decide), fun d nd => ?_⟩⟩
    have hd0 : (upd H d (.lst [.int n0])) d = some (.lst [.int n0]) := upd_same
    have S0 : Scr K d a0 ns (upd H d (.lst [.int n0])) := fun H' s => Same.seq (fun b o e => s b o (ne_of_none e nd) (same_new nd _ _ e)) hS
    generalize upd H d (.lst [.int n0]) = H0 at hd0 S0 ⊢
    refine ⟨_, rfl, d, n0, 3, rfl, hd0, by decide, by decide, fun mode m1 r0 r1 => ⟨_, rfl, d, m1, 30, rfl, upd_same, by decide, by decide, fun fac m2 f0 f1 => ?_⟩⟩
    rw [upd_upd]
    have hd1 : (upd H0 d (.lst [.int m2])) d = some (.lst [.int m2]) := upd_same
    have S1 : Scr K d a0 ns (upd H0 d (.lst [.int m2])) := S0.to SameX.upd
    generalize upd H0 d (.lst [.int m2]) = H1 at hd1 S1 ⊢
    have sx0 : ∀ H : Hp, SameX d H H := fun _ _ _ _ h => h
    refine ⟨1, fac, rfl, rfl, ?_⟩
    have w2 : CMulW 2 (10 ^ Int.toNat 24) := Bit.wm (n := 2) (m := 81) (show (2 : Int).natAbs < 2 ^ 2 by decide) (show (10 ^ Int.toNat 24 : Int).natAbs < 2 ^ 81 by decide) (by decide) (by decide) (by decide)
    refine ⟨_, rfl, a0, ns, 1, rfl, S1 _ (sx0 _), by decide, fun c1 => .inl ⟨c1, rfl, 10, 24, rfl, rfl, ⟨by decide, by decide, by decide⟩, 2, _, rfl, rfl, w2, _, 1, rfl, rfl, _, _, rfl, rfl, (by show (0 : Int) < 2 * 10 ^ Int.toNat 24 + 1; decide), 10, 24, rfl, rfl, ⟨by decide, by decide, by decide⟩, _, _, rfl, rfl, ?_⟩⟩
    refine ⟨_, rfl, a0, ns, 2, rfl, S1 _ (sx0 _), by decide, fun c2 => .inl ⟨c2, rfl, 10, 24, rfl, rfl, ⟨by decide, by decide, by decide⟩, _, _, rfl, rfl, (by show (0 : Int) < 10 ^ Int.toNat 24; decide), 1, _, rfl, rfl, (by show 2 ≤ sizeLine; decide), fun la nla => ?_⟩⟩
    have num : ∀ c1 c2 : Int, ∃ t u : Int, c1 % (2 * 10 ^ Int.toNat 24 + 1) - 10 ^ Int.toNat 24 = t ∧ 1 + c2 % 10 ^ Int.toNat 24 = u ∧ 0 < u ∧ Bit 81 t ∧ Bit 81 u := fun c1 c2 => by
      have h0 := Int.emod_nonneg c1 (b := 2000000000000000000000001) (by decide)
      have h1 := Int.emod_lt_of_pos c1 (b := 2000000000000000000000001) (by decide)
      have h2 := Int.emod_nonneg c2 (b := 1000000000000000000000000) (by decide)
      have h3 := Int.emod_lt_of_pos c2 (b := 1000000000000000000000000) (by decide)
      refine ⟨c1 % 2000000000000000000000001 - 1000000000000000000000000, 1 + c2 % 1000000000000000000000000, rfl, rfl, by omega, ?_, ?_⟩
      · unfold Bit
        rw [b81]
        omega
      · unfold Bit
        rw [b81]
        omega
    obtain ⟨A0, A1, eA0, eA1, pA, bA0, bA1⟩ := num c1 c2
    generalize hG : upd H1 la (.lst [.int (c1 % (2 * 10 ^ Int.toNat 24 + 1) - 10 ^ Int.toNat 24), .int (1 + c2 % 10 ^ Int.toNat 24)]) = H2
    rw [eA0, eA1] at hG
    have sA : Same H1 H2 := by
      rw [← hG]
      exact same_new nla
    have hA2 : H2 la = some (.lst [.int A0, .int A1]) := by
      rw [← hG]
      exact upd_same
    have hd2 := sA _ _ hd1
    have S2 := S1.to (same_x sA)
    clear hG
    refine ⟨_, rfl, a0, ns, 3, rfl, S2 _ (sx0 _), by decide, fun c3 => .inl ⟨c3, rfl, 10, 24, rfl, rfl, ⟨by decide, by decide, by decide⟩, 2, _, rfl, rfl, w2, _, 1, rfl, rfl, _, _, rfl, rfl, (by show (0 : Int) < 2 * 10 ^ Int.toNat 24 + 1; decide), 10, 24, rfl, rfl, ⟨by decide, by decide, by decide⟩, _, _, rfl, rfl, ?_⟩⟩
    refine ⟨_, rfl, a0, ns, 4, rfl, S2 _ (sx0 _), by decide, fun c4 => .inl ⟨c4, rfl, 10, 24, rfl, rfl, ⟨by decide, by decide, by decide⟩, _, _, rfl, rfl, (by show (0 : Int) < 10 ^ Int.toNat 24; decide), 1, _, rfl, rfl, (by show 2 ≤ sizeLine; decide), fun lb nlb => ?_⟩⟩
    obtain ⟨B0, B1, eB0, eB1, pB, bB0, bB1⟩ := num c3 c4
    generalize hG : upd H2 lb (.lst [.int (c3 % (2 * 10 ^ Int.toNat 24 + 1) - 10 ^ Int.toNat 24), .int (1 + c4 % 10 ^ Int.toNat 24)]) = H3
    rw [eB0, eB1] at hG
    have sB : Same H2 H3 := by
      rw [← hG]
      exact same_new nlb
    have hB3 : H3 lb = some (.lst [.int B0, .int B1]) := by
      rw [← hG]
      exact upd_same
    have hd3 := sB _ _ hd2
    have hA3 := sB _ _ hA2
    clear hG
    clear num w2 sB sA
    have bF : Bit 5 (1 + fac) := by
      unfold Bit
      rw [show (2 : Nat) ^ 5 = 32 from rfl]
      omega
    refine ⟨Pst H3 a0 d la mode (1 + fac), ?_, ?_⟩
    · refine ⟨_, rfl, rfl, _, rfl, ite2 (fun _ => ?_) fun _ => ?_⟩
      · refine ⟨_, rfl, la, _, 0, .int A0, rfl, rfl, SqL.of hA3, atI0, _, rfl, A0, 1 + fac, rfl, rfl, bA0.wm bF (by decide) (by decide) (by decide), _, rfl, la, _, 1, .int A1, rfl, rfl, SqL.of hA3, atI1, _, rfl, A1, 1 + fac, rfl, rfl, bA1.wm bF (by decide) (by decide) (by decide), (by show 2 ≤ sizeLine; decide), fun l nl => ?_⟩
        exact ⟨l, _, _, rfl, same_new nl, upd_same, Int.mul_pos pA (by omega), (bA0.mul bF).mono (by decide), (bA1.mul bF).mono (by decide)⟩
      · exact ⟨lb, _, _, rfl, Same.refl _, hB3, pB, bB0.mono (by decide), bB1.mono (by decide)⟩
    rintro σ' H4 ⟨lb4, C0, C1, rfl, s4, hB4, pC, bC0, bC1⟩
    refine ⟨Pst H3 a0 d la mode (1 + fac), ?_, ?_⟩
    · have hA4 := s4 _ _ hA3
      refine ⟨_, rfl, rfl, _, rfl, ite2 (fun _ => ?_) fun _ => ?_⟩
      · refine ⟨_, rfl, la, _, 0, .int A0, rfl, rfl, SqL.of hA4, atI0, _, rfl, _, 3, rfl, rfl, (by show (0 : Int) < 3; decide), A0, _, rfl, rfl, _, 1, rfl, rfl, _, rfl, la, _, 1, .int A1, rfl, rfl, SqL.of hA4, atI1, (by show 2 ≤ sizeLine; decide), fun l nl => ?_⟩
        refine ⟨l, _, _, rfl, s4.trans (same_new nl), upd_same, pA, ?_, bA1.mono (by decide)⟩
        have h0 := Int.emod_nonneg (1 + fac) (b := 3) (by decide)
        have h1 := Int.emod_lt_of_pos (1 + fac) (b := 3) (by decide)
        have bm : Bit 81 ((1 + fac) % 3) := by
          unfold Bit
          rw [b81]
          omega
        exact ((bA0.add bm).sub (show (1 : Int).natAbs < 2 ^ 82 by decide)).mono (by decide)
      · exact ⟨lb4, C0, C1, rfl, s4, hB4, pC, bC0, bC1⟩
    clear s4 hB4 pC bC0 bC1 lb4 C0 C1 H4
    clear bB0 bB1 pB eB0 eB1 hB3
    clear B0 B1
    rintro σ' H4 ⟨lb, B0, B1, rfl, s4, hB4, pB, bB0, bB1⟩
    have hA4 := s4 _ _ hA3
    have hd4 := s4 _ _ hd3
    clear bF eA0 eA1
    have bA0' : Bit 95 A0 := bA0.mono (by decide)
    have bA1' : Bit 95 A1 := bA1.mono (by decide)
    clear bA0 bA1
    refine ⟨_, rfl, la, _, 0, .int A0, rfl, rfl, SqL.of hA4, atI0, _, rfl, la, _, 1, .int A1, rfl, rfl, SqL.of hA4, atI1, fun p dx np ndx ne => ⟨p, dx, _, _, rfl, upd_same, .inl ⟨A0, A1, rfl, rfl, Int.ne_of_gt pA, bA1'.mono (by decide), rfl, ?_⟩⟩⟩
    have s5 := same_make2 (o1 := .own p) (o2 := .ins (CS K) dx []) (o3 := .ins (CS K) dx (shf (nT A0 A1) (nB A0 A1))) np ndx
    have hA5 := s5 _ _ hA4
    have hB5 := s5 _ _ hB4
    have hd5 := s5 _ _ hd4
    have hX5 : Sh (CS K) (upd (upd (upd H4 dx (.own p)) p (.ins (CS K) dx [])) p (.ins (CS K) dx (shf (nT A0 A1) (nB A0 A1)))) p (nT A0 A1) (nB A0 A1) := ⟨dx, upd_same⟩
    generalize upd (upd (upd H4 dx (.own p)) p (.ins (CS K) dx [])) p (.ins (CS K) dx (shf (nT A0 A1) (nB A0 A1))) = H5 at hA5 hB5 hd5 hX5 ⊢
    refine ⟨_, rfl, lb, _, 0, .int B0, rfl, rfl, SqL.of hB5, atI0, _, rfl, lb, _, 1, .int B1, rfl, rfl, SqL.of hB5, atI1, fun q dy nq ndy ne2 => ⟨q, dy, _, _, rfl, upd_same, .inl ⟨B0, B1, rfl, rfl, Int.ne_of_gt pB, bB1.mono (by decide), rfl, ?_⟩⟩⟩
    have npq : p ≠ q := by
      obtain ⟨dz, hz⟩ := hX5
      exact ne_of_none hz nq
    have s6 := same_make2 (o1 := .own q) (o2 := .ins (CS K) dy []) (o3 := .ins (CS K) dy (shf (nT B0 B1) (nB B0 B1))) nq ndy
    have hA6 := s6 _ _ hA5
    have hB6 := s6 _ _ hB5
    have hd6 := s6 _ _ hd5
    have hX6 := hX5.ext s6
    have hY6 : Sh (CS K) (upd (upd (upd H5 dy (.own q)) q (.ins (CS K) dy [])) q (.ins (CS K) dy (shf (nT B0 B1) (nB B0 B1)))) q (nT B0 B1) (nB B0 B1) := ⟨dy, upd_same⟩
    generalize upd (upd (upd H5 dy (.own q)) q (.ins (CS K) dy [])) q (.ins (CS K) dy (shf (nT B0 B1) (nB B0 B1))) = H6 at hA6 hB6 hd6 hX6 hY6 ⊢
    have nfA := nf_of A0 (Int.ne_of_gt pA)
    have nfB := nf_of B0 (Int.ne_of_gt pB)
    have one : Bit 100 1 := (show (1 : Int).natAbs < 2 ^ 100 by decide)
    have a0' : Bit 100 (nT A0 A1) := (bA0'.le nfA.le1).mono (by decide)
    have a1' : Bit 100 (nB A0 A1) := (bA1'.le nfA.le2).mono (by decide)
    have b0' : Bit 100 (nT B0 B1) := (bB0.le nfB.le1).mono (by decide)
    have b1' : Bit 100 (nB B0 B1) := (bB1.le nfB.le2).mono (by decide)
    have RA : Rep (nT A0 A1) (nB A0 A1) A0 A1 := ⟨nfA.toNf, nfA.eq, pA⟩
    have RB : Rep (nT B0 B1) (nB B0 B1) B0 B1 := ⟨nfB.toNf, nfB.eq, pB⟩
    have TXY : Two (CS K) H6 (.ref p) (.ref q) (nT A0 A1) (nB A0 A1) (nT B0 B1) (nB B0 B1) := ⟨.inl ⟨p, rfl, hX6⟩, .inl ⟨q, rfl, hY6⟩, .inl ⟨p, rfl⟩, nfA.pos, nfB.pos, a0', a1', b0', b1'⟩
    have TYX : Two (CS K) H6 (.ref q) (.ref p) (nT B0 B1) (nB B0 B1) (nT A0 A1) (nB A0 A1) := ⟨.inl ⟨q, rfl, hY6⟩, .inl ⟨p, rfl, hX6⟩, .inl ⟨q, rfl⟩, nfB.pos, nfA.pos, b0', b1', a0', a1'⟩
    have wAB : CMulW A0 B1 := bA0'.wm bB1 (by decide) (by decide) (by decide)
    have wBA : CMulW B0 A1 := bB0.wm bA1' (by decide) (by decide) (by decide)
    refine ⟨_, rfl, _, rfl, .ref p, .ref q, _, _, _, _, rfl, TXY, fun H7 t1 s7 ht1 => ?_⟩
    have hA7 := s7 _ _ hA6
    have hB7 := s7 _ _ hB6
    refine ⟨_, rfl, la, _, 0, .int A0, rfl, rfl, SqL.of hA7, atI0, _, rfl, lb, _, 1, .int B1, rfl, rfl, SqL.of hB7, atI1, A0, B1, rfl, rfl, wAB, _, rfl, lb, _, 0, .int B0, rfl, rfl, SqL.of hB7, atI0, _, rfl, la, _, 1, .int A1, rfl, rfl, SqL.of hA7, atI1, B0, A1, rfl, rfl, wBA, _, _, rfl, fun H8 t2 s8 ht2 => ⟨_, _, bsI (A0 * B1) (B0 * A1), rfl, (by rw [s8 _ _ ht1, six_eq RA RB, sixI_map]), (by rw [ht2, sixI_map]), rfl, true, rfl, iteF ?_⟩⟩
    have hA8 := s8 _ _ hA7
    have hB8 := s8 _ _ hB7
    have s78 := s7.trans s8
    refine ⟨_, rfl, _, rfl, .ref q, .ref p, _, _, _, _, rfl, TYX.ext s78, fun H9 t3 s9 ht3 => ?_⟩
    have hA9 := s9 _ _ hA8
    have hB9 := s9 _ _ hB8
    refine ⟨_, rfl, lb, _, 0, .int B0, rfl, rfl, SqL.of hB9, atI0, _, rfl, la, _, 1, .int A1, rfl, rfl, SqL.of hA9, atI1, B0, A1, rfl, rfl, wBA, _, rfl, la, _, 0, .int A0, rfl, rfl, SqL.of hA9, atI0, _, rfl, lb, _, 1, .int B1, rfl, rfl, SqL.of hB9, atI1, A0, B1, rfl, rfl, wAB, _, _, rfl, fun Ha t4 sa ht4 => ⟨_, _, bsI (B0 * A1) (A0 * B1), rfl, (by rw [sa _ _ ht3, six_eq RB RA, sixI_map]), (by rw [ht4, sixI_map]), rfl, true, rfl, iteF ?_⟩⟩
    have s6a := s78.trans (s9.trans sa)
    have hAa := s6a _ _ hA6
    have hBa := s6a _ _ hB6
    have hda := s6a _ _ hd6
    have hXa := hX6.ext s6a
    have hYa := hY6.ext s6a
    clear hA7 hB7 hA8 hB8 hA9 hB9 ht1 ht2 ht3 ht4 s7 s8 s9 sa s78 s6a TXY TYX hA6 hB6 hd6 hX6 hY6 hA5 hB5 hd5 hX5 s5 s6 hA4 hB4 hd4 s4
    clear H7 H8 H9 t1 t2 t3 t4
    -- near
    refine ⟨_, rfl, la, _, 0, .int A0, rfl, rfl, SqL.of hAa, atI0, ?_⟩
    refine .inl ⟨A0, rfl, _, rfl, la, _, 1, .int A1, rfl, rfl, SqL.of hAa, atI1, A0, A1, rfl, rfl, ⟨pA, bA1'.log (by decide) (by decide)⟩, ?_⟩
    have bN : Bit 99 (A0 / A1) := (bA0'.le (Int.natAbs_ediv_le_natAbs A0 A1)).mono (by decide)
    refine ⟨_, rfl, _, rfl, A0 / A1, 1, rfl, rfl, _, rfl, 10, 6, rfl, rfl, ⟨by decide, by decide, by decide⟩, d, m2, 10 ^ Int.toNat 6, rfl, hda, (by decide), (by decide), fun rt m3 q0 q1 => ⟨(by show 4 ≤ sizeLine; decide), fun l0 nl0 => ?_⟩⟩
    have dA : la ≠ d := ne_of hAa hda (by intro z; cases z)
    have dB : lb ≠ d := ne_of hBa hda (by intro z; cases z)
    have bR : Bit 99 rt := by
      unfold Bit
      have : (10 : Int) ^ Int.toNat 6 = 1000000 := rfl
      have h2 : (2 : Nat) ^ 99 = 633825300114114700748351602688 := by decide
      rw [h2]
      omega
    generalize hG : upd (upd Ha d (.lst [.int m3])) l0 (.lst [.int (A0 / A1), .int (A0 / A1 + 1), .int 0, .int rt]) = G
    have sG := same_new (o := .lst [.int (A0 / A1), .int (A0 / A1 + 1), .int 0, .int rt]) nl0
    rw [hG] at sG
    have h0 : G l0 = some (.lst [.int (A0 / A1), .int (A0 / A1 + 1), .int 0, .int rt]) := by
      rw [← hG]
      exact upd_same
    have hA : G la = some (.lst [.int A0, .int A1]) := sG _ _ (by rw [upd_ne dA]; exact hAa)
    have hB : G lb = some (.lst [.int B0, .int B1]) := sG _ _ (by rw [upd_ne dB]; exact hBa)
    have hX : Sh (CS K) G p (nT A0 A1) (nB A0 A1) := by
      obtain ⟨dz, hz⟩ := hXa
      exact ⟨dz, sG _ _ (by rw [upd_ne (ne_of hz hda (by intro z; cases z))]; exact hz)⟩
    have hY : Sh (CS K) G q (nT B0 B1) (nB B0 B1) := by
      obtain ⟨dz, hz⟩ := hYa
      exact ⟨dz, sG _ _ (by rw [upd_ne (ne_of hz hda (by intro z; cases z))]; exact hz)⟩
    have bz : ∀ x ∈ ([A0 / A1, A0 / A1 + 1, 0, rt] : List Int), Bit 100 x := by
      intro x hx
      simp only [List.mem_cons, List.not_mem_nil, or_false] at hx
      rcases hx with rfl | rfl | rfl | rfl
      · exact bN.mono (by decide)
      · exact bN.add (show (1 : Int).natAbs < 2 ^ 99 by decide)
      · exact (show (0 : Int).natAbs < 2 ^ 100 by decide)
      · exact bR.mono (by decide)
    have h0' : G l0 = some (.lst (([A0 / A1, A0 / A1 + 1, 0, rt] : List Int).map V.int)) := h0
    generalize hL : ([A0 / A1, A0 / A1 + 1, 0, rt] : List Int) = L at bz h0'
    clear hG sG hAa hBa hXa hYa hda nl0 dA dB bR bN q0 q1 h0
    refine ⟨l0, rfl, ⟨_, SqL.of h0'⟩, for_list (K := K) (a := l0) (xs := L.map V.int) (fun i σ H' => Same G H' ∧ ∃ v9 v10 : Option V, σ = [some (.ref a0), some (.ref d), some (.int mode), some (.int (1 + fac)), some (.ref la), some (.ref lb), some (.ref p), some (.ref q), some (.int (A0 / A1)), v9, v10]) ⟨Same.refl _, none, none, rfl⟩ (fun i σ H' _ h => h.1.seq (SqL.of h0')) ?_ ?_⟩
    · rintro i y σ H' hi ⟨sg, v9, v10, rfl⟩
      obtain ⟨n, hn, rfl⟩ : ∃ n ∈ L, y = .int n := by
        rw [List.getElem?_map] at hi
        cases hq : L[i]? with
        | none => rw [hq] at hi; cases hi
        | some n =>
          rw [hq] at hi
          exact ⟨n, List.mem_of_getElem? hq, (Option.some.inj hi).symm⟩
      have bn := bz n hn
      have wn : CMulW n A1 := bn.wm bA1' (by decide) (by decide) (by decide)
      have hXh := hX.ext sg
      have hAh := sg _ _ hA
      have TXN : Two (CS K) H' (.ref p) (.int n) (nT A0 A1) (nB A0 A1) n 1 := ⟨.inl ⟨p, rfl, hXh⟩, .inr ⟨rfl, rfl⟩, .inl ⟨p, rfl⟩, nfA.pos, by decide, a0', a1', bn, one⟩
      have TNX : Two (CS K) H' (.int n) (.ref p) n 1 (nT A0 A1) (nB A0 A1) := ⟨.inr ⟨rfl, rfl⟩, .inl ⟨p, rfl, hXh⟩, .inr ⟨p, rfl⟩, by decide, nfA.pos, bn, one, a0', a1'⟩
      have e1 : sixF (nT A0 A1) (nB A0 A1) n 1 = sixI A0 (n * A1) := by
        have := six_eq RA (rep_int n)
        rw [Int.mul_one] at this
        exact this
      have e2 : sixF n 1 (nT A0 A1) (nB A0 A1) = sixI (n * A1) A0 := by
        have := six_eq (rep_int n) RA
        rw [Int.mul_one] at this
        exact this
      have e3 : sixF (nT n 1) (nB n 1) n 1 = sixI n n := by
        rw [nT_one, nB_one]
        have := six_eq (rep_int n) (rep_int n)
        rw [Int.mul_one] at this
        exact this
      refine ⟨_, rfl, _, rfl, .ref p, .int n, _, _, _, _, rfl, TXN, fun H7 t1 s7 ht1 => ?_⟩
      have hA7 := s7 _ _ hAh
      refine ⟨_, rfl, la, _, 0, .int A0, rfl, rfl, SqL.of hA7, atI0, _, rfl, _, rfl, la, _, 1, .int A1, rfl, rfl, SqL.of hA7, atI1, n, A1, rfl, rfl, wn, _, _, rfl, fun H8 t2 s8 ht2 => ⟨_, _, bsI A0 (n * A1), rfl, (by rw [s8 _ _ ht1, e1, sixI_map]), (by rw [ht2, sixI_map]), rfl, true, rfl, iteF ?_⟩⟩
      have s78 := s7.trans s8
      refine ⟨_, rfl, _, rfl, .int n, .ref p, _, _, _, _, rfl, TNX.ext s78, fun H9 t3 s9 ht3 => ?_⟩
      have hA9 := s9 _ _ (s78 _ _ hAh)
      refine ⟨_, rfl, _, rfl, la, _, 1, .int A1, rfl, rfl, SqL.of hA9, atI1, n, A1, rfl, rfl, wn, _, rfl, la, _, 0, .int A0, rfl, rfl, SqL.of hA9, atI0, _, _, rfl, fun Hb t4 sb ht4 => ⟨_, _, bsI (n * A1) A0, rfl, (by rw [sb _ _ ht3, e2, sixI_map]), (by rw [ht4, sixI_map]), rfl, true, rfl, iteF ?_⟩⟩
      have s7b := s78.trans (s9.trans sb)
      refine ⟨_, rfl, fun r dr nr ndr ne => ⟨r, dr, .int n, .int 1, rfl, upd_same, .inl ⟨n, 1, rfl, rfl, by decide, one.mono (by decide), rfl, ?_⟩⟩⟩
      have sc := same_make2 (o1 := .own r) (o2 := .ins (CS K) dr []) (o3 := .ins (CS K) dr (shf (nT n 1) (nB n 1))) nr ndr
      have hR : Sh (CS K) (upd (upd (upd Hb dr (.own r)) r (.ins (CS K) dr [])) r (.ins (CS K) dr (shf (nT n 1) (nB n 1)))) r (nT n 1) (nB n 1) := ⟨dr, upd_same⟩
      generalize upd (upd (upd Hb dr (.own r)) r (.ins (CS K) dr [])) r (.ins (CS K) dr (shf (nT n 1) (nB n 1))) = Hc at sc hR ⊢
      have TRN : Two (CS K) Hc (.ref r) (.int n) (nT n 1) (nB n 1) n 1 := ⟨.inl ⟨r, rfl, hR⟩, .inr ⟨rfl, rfl⟩, .inl ⟨r, rfl⟩, by rw [nB_one]; decide, by decide, by rw [nT_one]; exact bn, by rw [nB_one]; exact one, bn, one⟩
      refine ⟨_, rfl, .ref r, .int n, _, _, _, _, rfl, TRN, fun Hd t5 sd ht5 => ?_⟩
      refine ⟨_, rfl, _, rfl, _, _, rfl, fun He t6 se ht6 => ⟨_, _, bsI n n, rfl, (by rw [se _ _ ht5, e3, sixI_map]), (by rw [ht6, sixI_map]), rfl, true, rfl, iteF ?_⟩⟩
      exact ⟨sg.trans (s7b.trans (sc.trans (sd.trans se))), _, _, rfl⟩
    · rintro σ H' ⟨sg, v9, v10, rfl⟩
      have hA' := sg _ _ hA
      have hB' := sg _ _ hB
      have hX' := hX.ext sg
      have hY' := hY.ext sg
      clear sg hA hB hX hY h0' hL bz
      refine ⟨(by show 2 ≤ sizeLine; decide), fun u1 nu1 => ⟨(by show 1 ≤ sizeLine; decide), fun u2 nu2 => fun u3 nu3 => ⟨(by show 7 ≤ sizeLine; decide), fun l1 nl1 => ?_⟩⟩⟩
      have s1 := same_new (o := .tup [.int 1, .int 1]) nu1
      have s2 := same_new (o := .lst [.int 1]) nu2
      have s3 := same_new (o := .dK []) nu3
      have s4 := same_new (o := .lst [.non, .str "1", .ref u1, .ref u2, .ref u3, .bl true, .bl false]) nl1
      have h1 := s4 _ _ (s3 _ _ (s2 _ _ (upd_same (H := H') (a := u1) (o := .tup [.int 1, .int 1]))))
      have h2 := s4 _ _ (s3 _ _ (upd_same (H := upd H' u1 (.tup [.int 1, .int 1])) (a := u2) (o := .lst [.int 1])))
      have h3 := s4 _ _ (upd_same (H := upd (upd H' u1 (.tup [.int 1, .int 1])) u2 (.lst [.int 1])) (a := u3) (o := .dK []))
      have h4 := upd_same (H := upd (upd (upd H' u1 (.tup [.int 1, .int 1])) u2 (.lst [.int 1])) u3 (.dK [])) (a := l1) (o := .lst [.non, .str "1", .ref u1, .ref u2, .ref u3, .bl true, .bl false])
      have sG := s1.trans (s2.trans (s3.trans s4))
      generalize upd (upd (upd (upd H' u1 (.tup [.int 1, .int 1])) u2 (.lst [.int 1])) u3 (.dK [])) l1 (.lst [.non, .str "1", .ref u1, .ref u2, .ref u3, .bl true, .bl false]) = G2 at h1 h2 h3 h4 sG ⊢
      have hA := sG _ _ hA'
      have hB := sG _ _ hB'
      have hX := hX'.ext sG
      have hY := hY'.ext sG
      have odd : ∀ z ∈ ([.non, .str "1", .ref u1, .ref u2, .ref u3, .bl true, .bl false] : List V), Odd G2 z := by
        intro z hz
        simp only [List.mem_cons, List.not_mem_nil, or_false] at hz
        rcases hz with rfl | rfl | rfl | rfl | rfl | rfl | rfl
        · exact .non
        · exact .str _
        · exact .tup h1
        · exact .lst h2
        · exact .dic h3
        · exact .bl _
        · exact .bl _
      clear s1 s2 s3 s4 hA' hB' hX' hY' h1 h2 h3
      refine ⟨l1, rfl, ⟨_, SqL.of h4⟩, for_list (K := K) (a := l1) (xs := [.non, .str "1", .ref u1, .ref u2, .ref u3, .bl true, .bl false]) (fun i σ H' => Same G2 H' ∧ ∃ v10 : Option V, σ = [some (.ref a0), some (.ref d), some (.int mode), some (.int (1 + fac)), some (.ref la), some (.ref lb), some (.ref p), some (.ref q), some (.int (A0 / A1)), v9, v10]) ⟨Same.refl _, v10, rfl⟩ (fun i σ H' _ h => h.1.seq (SqL.of h4)) ?_ ?_⟩
      · rintro i y σ H' hi ⟨sg, v10, rfl⟩
        have oy := (odd y (List.mem_of_getElem? hi)).ext sg
        refine fun r dr nr ndr ne => ⟨r, dr, .int 1, .int 1, rfl, upd_same, .inl ⟨1, 1, rfl, rfl, by decide, one.mono (by decide), rfl, ?_⟩⟩
        have o0 := oy
        have z1 := same_make2 (o1 := .own r) (o2 := .ins (CS K) dr []) (o3 := .ins (CS K) dr (shf (nT 1 1) (nB 1 1))) nr ndr
        have hR1 : Sh (CS K) (upd (upd (upd H' dr (.own r)) r (.ins (CS K) dr [])) r (.ins (CS K) dr (shf (nT 1 1) (nB 1 1)))) r (nT 1 1) (nB 1 1) := ⟨dr, upd_same⟩
        generalize upd (upd (upd H' dr (.own r)) r (.ins (CS K) dr [])) r (.ins (CS K) dr (shf (nT 1 1) (nB 1 1))) = I1 at z1 hR1 ⊢
        have o1 := o0.ext z1
        refine ⟨_, rfl, .inl (rd_eqs hR1 (.inr ⟨o1, false, rfl, iteF ?_⟩))⟩
        refine fun t dt nt ndt ne => ⟨t, dt, .int 0, .int 1, rfl, upd_same, .inl ⟨0, 1, rfl, rfl, by decide, one.mono (by decide), rfl, ?_⟩⟩
        have z2 := same_make2 (o1 := .own t) (o2 := .ins (CS K) dt []) (o3 := .ins (CS K) dt (shf (nT 0 1) (nB 0 1))) nt ndt
        have hR2 : Sh (CS K) (upd (upd (upd I1 dt (.own t)) t (.ins (CS K) dt [])) t (.ins (CS K) dt (shf (nT 0 1) (nB 0 1)))) t (nT 0 1) (nB 0 1) := ⟨dt, upd_same⟩
        generalize upd (upd (upd I1 dt (.own t)) t (.ins (CS K) dt [])) t (.ins (CS K) dt (shf (nT 0 1) (nB 0 1))) = I2 at z2 hR2 ⊢
        have o2 := o1.ext z2
        refine ⟨_, rfl, .inl (rd_eqs hR2 (.inr ⟨o2, false, rfl, iteF ?_⟩))⟩
        refine ⟨_, rfl, fun u du nu ndu ne => ⟨u, du, .int 1, .int 1, rfl, upd_same, .inl ⟨1, 1, rfl, rfl, by decide, one.mono (by decide), rfl, ?_⟩⟩⟩
        have z3 := same_make2 (o1 := .own u) (o2 := .ins (CS K) du []) (o3 := .ins (CS K) du (shf (nT 1 1) (nB 1 1))) nu ndu
        have hR3 : Sh (CS K) (upd (upd (upd I2 du (.own u)) u (.ins (CS K) du [])) u (.ins (CS K) du (shf (nT 1 1) (nB 1 1)))) u (nT 1 1) (nB 1 1) := ⟨du, upd_same⟩
        generalize upd (upd (upd I2 du (.own u)) u (.ins (CS K) du [])) u (.ins (CS K) du (shf (nT 1 1) (nB 1 1))) = I3 at z3 hR3 ⊢
        have o3 := o2.ext z3
        obtain ⟨du', gu⟩ := id hR3
        refine .inr (.inr ⟨u, du', _, o3, rfl, gu, u, y, _, _, rfl, hR3, .inr ⟨o3, false, rfl, iteF ?_⟩⟩)
        refine fun g dg ng ndg ne => ⟨g, dg, .int 1, .int 1, rfl, upd_same, .inl ⟨1, 1, rfl, rfl, by decide, one.mono (by decide), rfl, ?_⟩⟩
        have z4 := same_make2 (o1 := .own g) (o2 := .ins (CS K) dg []) (o3 := .ins (CS K) dg (shf (nT 1 1) (nB 1 1))) ng ndg
        have hR4 : Sh (CS K) (upd (upd (upd I3 dg (.own g)) g (.ins (CS K) dg [])) g (.ins (CS K) dg (shf (nT 1 1) (nB 1 1)))) g (nT 1 1) (nB 1 1) := ⟨dg, upd_same⟩
        generalize upd (upd (upd I3 dg (.own g)) g (.ins (CS K) dg [])) g (.ins (CS K) dg (shf (nT 1 1) (nB 1 1))) = I4 at z4 hR4 ⊢
        have o4 := o3.ext z4
        refine ⟨_, rfl, .inl (rd_eqs hR4 (.inr ⟨o4, true, rfl, ?_⟩))⟩
        exact iteF ⟨sg.trans (z1.trans (z2.trans (z3.trans z4))), _, rfl⟩
      · rintro σ H' ⟨sg, v10, rfl⟩
        have hA' := sg _ _ hA
        have hB' := sg _ _ hB
        have hX' := hX.ext sg
        have hY' := hY.ext sg
        refine ⟨_, rfl, _, rfl, (by show 2 ≤ sizeLine; decide), fun l nl => ?_⟩
        have sl := same_new (o := .lst [.ref q, .non]) nl
        have hl : (upd H' l (.lst [.ref q, .non])) l = some (.lst [.ref q, .non]) := upd_same
        have hX2 := hX'.ext sl
        have hY2 := hY'.ext sl
        have hA2 := sl _ _ hA'
        have hB2 := sl _ _ hB'
        generalize upd H' l (.lst [.ref q, .non]) = G3 at hl hX2 hY2 hA2 hB2 ⊢
        have ee : fEq (nT B0 B1) (nB B0 B1) (nT A0 A1) (nB A0 A1) = decide (A0 * B1 = B0 * A1) := by
          have h := six_eq RB RA
          unfold sixF sixI at h
          injection h with h _
          injection h with h
          rw [h]
          exact decide_eq_decide.mpr ⟨Eq.symm, Eq.symm⟩
        refine ⟨l, _, [fEq (nT B0 B1) (nB B0 B1) (nT A0 A1) (nB A0 A1), false], rfl, SqL.of hl, .cons (fun H' e => .inl ?_) (.cons (fun H' e => .inr ?_) .nil), fun H' e => ?_⟩
        · obtain ⟨d1, g1⟩ := hX2.ext e
          obtain ⟨d2, g2⟩ := hY2.ext e
          exact ⟨q, p, d2, d1, _, _, rfl, rfl, g2, g1, fun z => absurd z.symm npq, q, _, _, _, rfl, ⟨d2, g2⟩, .inl ⟨_, _, .inl ⟨p, rfl, d1, g1⟩, fun H2 s2 => ⟨rfl, s2⟩⟩⟩
        · obtain ⟨d1, g1⟩ := hX2.ext e
          exact ⟨p, d1, _, .non, rfl, g1, (fun z => by cases z), p, _, _, _, rfl, ⟨d1, g1⟩, .inr ⟨.non, rfl, Ext.rfl'⟩⟩
        · have hA3 := e _ _ hA2
          have hB3 := e _ _ hB2
          refine ⟨_, rfl, la, _, 0, .int A0, rfl, rfl, SqL.of hA3, atI0, _, rfl, lb, _, 1, .int B1, rfl, rfl, SqL.of hB3, atI1, A0, B1, rfl, rfl, wAB, _, rfl, lb, _, 0, .int B0, rfl, rfl, SqL.of hB3, atI0, _, rfl, la, _, 1, .int A1, rfl, rfl, SqL.of hA3, atI1, B0, A1, rfl, rfl, wBA, rfl, ?_⟩
          refine ⟨rfl, ?_⟩
          show Q (.bl (decide (V.bl (fEq (nT B0 B1) (nB B0 B1) (nT A0 A1) (nB A0 A1) || (false || false)) = V.bl (decide (V.int (A0 * B1) = V.int (B0 * A1)))))) H'
          rw [int_dec, ee, Bool.or_false, Bool.or_false, decide_eq_true (rfl : V.bl (decide (A0 * B1 = B0 * A1)) = V.bl (decide (A0 * B1 = B0 * A1)))]
          exact k _
end
end K3

set_option Elab.async false
set_option linter.all false
set_option maxRecDepth 100000
set_option maxHeartbeats 0
namespace K3
open PySem PySem.Spec PyProof.Rows L2 Vf
def fn : List He.DefD := [
  ⟨("is_integer", none), "is_integer", "is_integer", defArgs s_is_integer, defBody s_is_integer, defScope s_is_integer, [], []⟩,
  ⟨("BadShare", some "__init__"), "__init__", "BadShare.__init__", defArgs s_BadShare_init, defBody s_BadShare_init, defScope s_BadShare_init, [], []⟩,
  ⟨("Share", some "__init__"), "__init__", "Share.__init__", defArgs s_Share_init, defBody s_Share_init, defScope s_Share_init, [.int 1], []⟩,
  ⟨("is_number", none), "is_number", "is_number", defArgs s_is_number, defBody s_is_number, defScope s_is_number, [], []⟩,
  ⟨("parts", none), "parts", "parts", defArgs s_parts, defBody s_parts, defScope s_parts, [], []⟩,
  ⟨("Share", some "__eq__"), "__eq__", "Share.__eq__", defArgs s_Share_eq, defBody s_Share_eq, defScope s_Share_eq, [], []⟩,
  ⟨("Share", some "__ne__"), "__ne__", "Share.__ne__", defArgs s_Share_ne, defBody s_Share_ne, defScope s_Share_ne, [], []⟩,
  ⟨("Share", some "__lt__"), "__lt__", "Share.__lt__", defArgs s_Share_lt, defBody s_Share_lt, defScope s_Share_lt, [], []⟩,
  ⟨("Share", some "__le__"), "__le__", "Share.__le__", defArgs s_Share_le, defBody s_Share_le, defScope s_Share_le, [], []⟩,
  ⟨("Share", some "__gt__"), "__gt__", "Share.__gt__", defArgs s_Share_gt, defBody s_Share_gt, defScope s_Share_gt, [], []⟩,
  ⟨("Share", some "__ge__"), "__ge__", "Share.__ge__", defArgs s_Share_ge, defBody s_Share_ge, defScope s_Share_ge, [], []⟩,
  ⟨("_law_take", none), "_law_take", "_law_take", defArgs s_law_take, defBody s_law_take, defScope s_law_take, [], []⟩,
  ⟨("_law_cell", none), "_law_cell", "_law_cell", defArgs s_law_cell, defBody s_law_cell, defScope s_law_cell, [], []⟩,
  ⟨("_law_compared", none), "_law_compared", "_law_compared", defArgs s_law_compared, defBody s_law_compared, defScope s_law_compared, [], []⟩,
  ⟨("_law_due", none), "_law_due", "_law_due", defArgs s_law_due, defBody s_law_due, defScope s_law_due, [], []⟩,
  ⟨("_law_flags_fit", none), "_law_flags_fit", "_law_flags_fit", defArgs s_law_flags_fit, defBody s_law_flags_fit, defScope s_law_flags_fit, [], []⟩,
  ⟨("law", none), "law", "law", defArgs s_law, defBody s_law, defScope s_law, [], []⟩]
def fa : List He.Fa := [.free "int", .free "bool", .free "abs", .free "isinstance", .glo "is_integer", .glo "is_number", .glo "parts", .glo "Share", .glo "NoShare", .glo "BadShare", .cls "Share", .mkr "Share", .noat "Share" "top", .noat "Share" "bottom", .exc "NoShare", .meth "Share" "__eq__", .meth "Share" "__ne__", .meth "Share" "__lt__", .meth "Share" "__le__", .meth "Share" "__gt__", .meth "Share" "__ge__", .free "len", .free "range", .glo "_law_cell", .glo "_law_take", .glo "_law_compared", .glo "_law_due", .glo "_law_flags_fit", .glo "law"]
def ex2 (K : PySem.W.Frag) : Bool := ((He.eqO (PySem.W.nsIn K mainGlobals "gcd") (some (some (.builtin "math.gcd")))) && ((exI K "BadShare" "part") && ((decide (PySem.W.exmOne K (.ref (He.ga K "NoShare")) (.ref (He.ga K "NoShare")) = some true)) && ((He.eqO (PySem.W.specialIn K (.builtin "object.__class__") "__get__") (some (some (.builtin "getset_descriptor.__get__")))) && ((decide (PySem.W.takesIn K (.builtin "object.__class__") = some true)) && ((He.eqO (PySem.W.findIn K (.ref (He.ga K "Share")) "__class__") (some (some (.builtin "object.__class__")))) && ((decide (PySem.W.mroIn K (He.ga K "Share") (.type "object") = some true)) && ((decide (PySem.W.mroIn K (He.ga K "Share") (.type "int") = some false)) && ((PySem.W.selfFirst K (He.ga K "Share")) && ((decide (PySem.W.subIn K (.type "int") (.ref (He.ga K "Share")) = some false)) && ((decide (PySem.W.kitOne K (.ref (He.ga K "Share")) (.ref (He.ga K "Share")) = some true)) && (((["int", "bool", "NoneType", "str", "tuple", "list", "dict"] : List String).all fun n => decide (PySem.W.kitOne K (.type n) (.ref (He.ga K "Share")) = some false)) && ((oddK.all fun n => decide (PySem.W.mroIn K (He.ga K "Share") (.type n) = some false)) && ((He.eqO (PySem.W.nsIn K mainGlobals "gcd") (some (some (.builtin "math.gcd")))) && ((exI K "BadShare" "part") && ((decide (PySem.W.exmOne K (.ref (He.ga K "NoShare")) (.ref (He.ga K "NoShare")) = some true)) && ((He.eqO (PySem.W.specialIn K (.builtin "object.__class__") "__get__") (some (some (.builtin "getset_descriptor.__get__")))) && ((decide (PySem.W.takesIn K (.builtin "object.__class__") = some true)) && ((He.eqO (PySem.W.findIn K (.ref (He.ga K "Share")) "__class__") (some (some (.builtin "object.__class__")))) && ((decide (PySem.W.mroIn K (He.ga K "Share") (.type "object") = some true)) && ((decide (PySem.W.mroIn K (He.ga K "Share") (.type "int") = some false)) && ((PySem.W.selfFirst K (He.ga K "Share")) && ((decide (PySem.W.subIn K (.type "int") (.ref (He.ga K "Share")) = some false)) && ((decide (PySem.W.kitOne K (.ref (He.ga K "Share")) (.ref (He.ga K "Share")) = some true)) && (((["int", "bool", "NoneType", "str", "tuple", "list", "dict"] : List String).all fun n => decide (PySem.W.kitOne K (.type n) (.ref (He.ga K "Share")) = some false)) && true)))))))))))))))))))))))))
def ex (K : PySem.W.Frag) : Bool := (fa.all fun f => f.ok K) && ex2 K
abbrev R : PySem.W.OpenRow := PySem.W.OpenLaw.row PySem.Challenge.rw_seenshares_k03_share_order
abbrev hk : PySem.W.Hook := hookM 5 ex fn
def ob (s : PySem.W.SharedT) : AlM := obsMG 5 ex fn (HandSHeadRun.getT s)
theorem ob_eq (s : PySem.W.SharedT) : ob s = hk.obs s.abs := obsMG_eq (HandSHeadRun.getT_eq s)
def names : List Str := ["SeenError", "BadShare", "NoShare", "is_integer", "Share", "is_number", "parts", "_law_cell", "_law_take", "_law_compared", "_law_due", "_law_flags_fit"]
theorem run (w : World) : HandSHeadRun.RunEqI R (PySem.W.view R.prog [0, 17]) hk ob 100000 names w := by
  unfold HandSHeadRun.RunEqI
  kernel_rfl
end K3

set_option Elab.async false
set_option linter.all false
set_option maxRecDepth 100000
set_option maxHeartbeats 4000000
namespace K3
open PySem PySem.Spec PyProof.Rows L2 Vf
section
variable {K : PySem.W.Frag} {h : Heap} {mg : Str → Option Value}
theorem mk_STxt (X : K.In h) (G : h.Ns mainGlobals mg) (c : ex K = true) : STxt K mg := by
  obtain ⟨a, c⟩ := He.ba c
  have fact : ∀ (i : Nat) {f : He.Fa}, fa[i]? = some f → f.ok K = true := fun i f e => List.all_eq_true.mp a f (List.mem_of_getElem? e)
  obtain ⟨c0, c⟩ := He.ba c
  obtain ⟨c1, c⟩ := He.ba c
  obtain ⟨c2, c⟩ := He.ba c
  obtain ⟨c3, c⟩ := He.ba c
  obtain ⟨c4, c⟩ := He.ba c
  obtain ⟨c5, c⟩ := He.ba c
  obtain ⟨c6, c⟩ := He.ba c
  obtain ⟨c7, c⟩ := He.ba c
  obtain ⟨c8, c⟩ := He.ba c
  obtain ⟨c9, c⟩ := He.ba c
  obtain ⟨c10, c⟩ := He.ba c
  obtain ⟨c11, c⟩ := He.ba c
  obtain ⟨c12, c⟩ := He.ba c
  obtain ⟨c13, c⟩ := He.ba c
  obtain ⟨c14, c⟩ := He.ba c
  obtain ⟨c15, c⟩ := He.ba c
  obtain ⟨c16, c⟩ := He.ba c
  obtain ⟨c17, c⟩ := He.ba c
  obtain ⟨c18, c⟩ := He.ba c
  obtain ⟨c19, c⟩ := He.ba c
  obtain ⟨c20, c⟩ := He.ba c
  obtain ⟨c21, c⟩ := He.ba c
  obtain ⟨c22, c⟩ := He.ba c
  obtain ⟨c23, c⟩ := He.ba c
  obtain ⟨c24, c⟩ := He.ba c
  exact
  { z_int := He.free_ok X G (fact 0 (f := .free "int") rfl)
    z_bool := He.free_ok X G (fact 1 (f := .free "bool") rfl)
    z_abs := He.free_ok X G (fact 2 (f := .free "abs") rfl)
    z_isinstance := He.free_ok X G (fact 3 (f := .free "isinstance") rfl)
    gcd := PySem.W.mg_of X G (He.eqO_ok c0)
    g_is_integer := He.glo_ok X G (fact 4 (f := .glo "is_integer") rfl)
    g_is_number := He.glo_ok X G (fact 5 (f := .glo "is_number") rfl)
    g_parts := He.glo_ok X G (fact 6 (f := .glo "parts") rfl)
    g_Share := He.glo_ok X G (fact 7 (f := .glo "Share") rfl)
    g_NoShare := He.glo_ok X G (fact 8 (f := .glo "NoShare") rfl)
    g_BadShare := He.glo_ok X G (fact 9 (f := .glo "BadShare") rfl)
    c_Share := cls_of (fact 10 (f := .cls "Share") rfl)
    m_Share := mk_of (fact 11 (f := .mkr "Share") rfl)
    nT := noat_of (fact 12 (f := .noat "Share" "top") rfl)
    nB := noat_of (fact 13 (f := .noat "Share" "bottom") rfl)
    x_BadShare := exI_ok c1
    e_NoShare := (fact 14 (f := .exc "NoShare") rfl)
    te := of_decide_eq_true c2
    hn := He.eqO_ok c3
    ht := of_decide_eq_true c4
    ha := He.eqO_ok c5
    hm := of_decide_eq_true c6
    hi := of_decide_eq_true c7
    hc := c8
    hs := of_decide_eq_true c9
    k1 := of_decide_eq_true c10
    kz := fun n hn => of_decide_eq_true (List.all_eq_true.mp c11 n hn) }
theorem mk_CMeth (X : K.In h) (G : h.Ns mainGlobals mg) (c : ex K = true) : CMeth K := by
  obtain ⟨a, c⟩ := He.ba c
  have fact : ∀ (i : Nat) {f : He.Fa}, fa[i]? = some f → f.ok K = true := fun i f e => List.all_eq_true.mp a f (List.mem_of_getElem? e)
  obtain ⟨c0, c⟩ := He.ba c
  obtain ⟨c1, c⟩ := He.ba c
  obtain ⟨c2, c⟩ := He.ba c
  obtain ⟨c3, c⟩ := He.ba c
  obtain ⟨c4, c⟩ := He.ba c
  obtain ⟨c5, c⟩ := He.ba c
  obtain ⟨c6, c⟩ := He.ba c
  obtain ⟨c7, c⟩ := He.ba c
  obtain ⟨c8, c⟩ := He.ba c
  obtain ⟨c9, c⟩ := He.ba c
  obtain ⟨c10, c⟩ := He.ba c
  obtain ⟨c11, c⟩ := He.ba c
  obtain ⟨c12, c⟩ := He.ba c
  obtain ⟨c13, c⟩ := He.ba c
  obtain ⟨c14, c⟩ := He.ba c
  obtain ⟨c15, c⟩ := He.ba c
  obtain ⟨c16, c⟩ := He.ba c
  obtain ⟨c17, c⟩ := He.ba c
  obtain ⟨c18, c⟩ := He.ba c
  obtain ⟨c19, c⟩ := He.ba c
  obtain ⟨c20, c⟩ := He.ba c
  obtain ⟨c21, c⟩ := He.ba c
  obtain ⟨c22, c⟩ := He.ba c
  obtain ⟨c23, c⟩ := He.ba c
  obtain ⟨c24, c⟩ := He.ba c
  exact
  { m_eq := meth_of (fact 15 (f := .meth "Share" "__eq__") rfl)
    m_ne := meth_of (fact 16 (f := .meth "Share" "__ne__") rfl)
    m_lt := meth_of (fact 17 (f := .meth "Share" "__lt__") rfl)
    m_le := meth_of (fact 18 (f := .meth "Share" "__le__") rfl)
    m_gt := meth_of (fact 19 (f := .meth "Share" "__gt__") rfl)
    m_ge := meth_of (fact 20 (f := .meth "Share" "__ge__") rfl)
    km := fun n hn => of_decide_eq_true (List.all_eq_true.mp c12 n hn) }
theorem mk_Txt (X : K.In h) (G : h.Ns mainGlobals mg) (c : ex K = true) : Txt K mg := by
  obtain ⟨a, c⟩ := He.ba c
  have fact : ∀ (i : Nat) {f : He.Fa}, fa[i]? = some f → f.ok K = true := fun i f e => List.all_eq_true.mp a f (List.mem_of_getElem? e)
  obtain ⟨c0, c⟩ := He.ba c
  obtain ⟨c1, c⟩ := He.ba c
  obtain ⟨c2, c⟩ := He.ba c
  obtain ⟨c3, c⟩ := He.ba c
  obtain ⟨c4, c⟩ := He.ba c
  obtain ⟨c5, c⟩ := He.ba c
  obtain ⟨c6, c⟩ := He.ba c
  obtain ⟨c7, c⟩ := He.ba c
  obtain ⟨c8, c⟩ := He.ba c
  obtain ⟨c9, c⟩ := He.ba c
  obtain ⟨c10, c⟩ := He.ba c
  obtain ⟨c11, c⟩ := He.ba c
  obtain ⟨c12, c⟩ := He.ba c
  obtain ⟨c13, c⟩ := He.ba c
  obtain ⟨c14, c⟩ := He.ba c
  obtain ⟨c15, c⟩ := He.ba c
  obtain ⟨c16, c⟩ := He.ba c
  obtain ⟨c17, c⟩ := He.ba c
  obtain ⟨c18, c⟩ := He.ba c
  obtain ⟨c19, c⟩ := He.ba c
  obtain ⟨c20, c⟩ := He.ba c
  obtain ⟨c21, c⟩ := He.ba c
  obtain ⟨c22, c⟩ := He.ba c
  obtain ⟨c23, c⟩ := He.ba c
  obtain ⟨c24, c⟩ := He.ba c
  exact
  { z_int := He.free_ok X G (fact 0 (f := .free "int") rfl)
    z_bool := He.free_ok X G (fact 1 (f := .free "bool") rfl)
    z_abs := He.free_ok X G (fact 2 (f := .free "abs") rfl)
    z_isinstance := He.free_ok X G (fact 3 (f := .free "isinstance") rfl)
    gcd := PySem.W.mg_of X G (He.eqO_ok c13)
    g_is_integer := He.glo_ok X G (fact 4 (f := .glo "is_integer") rfl)
    g_is_number := He.glo_ok X G (fact 5 (f := .glo "is_number") rfl)
    g_parts := He.glo_ok X G (fact 6 (f := .glo "parts") rfl)
    g_Share := He.glo_ok X G (fact 7 (f := .glo "Share") rfl)
    g_NoShare := He.glo_ok X G (fact 8 (f := .glo "NoShare") rfl)
    g_BadShare := He.glo_ok X G (fact 9 (f := .glo "BadShare") rfl)
    c_Share := cls_of (fact 10 (f := .cls "Share") rfl)
    m_Share := mk_of (fact 11 (f := .mkr "Share") rfl)
    nT := noat_of (fact 12 (f := .noat "Share" "top") rfl)
    nB := noat_of (fact 13 (f := .noat "Share" "bottom") rfl)
    x_BadShare := exI_ok c14
    e_NoShare := (fact 14 (f := .exc "NoShare") rfl)
    te := of_decide_eq_true c15
    hn := He.eqO_ok c16
    ht := of_decide_eq_true c17
    ha := He.eqO_ok c18
    hm := of_decide_eq_true c19
    hi := of_decide_eq_true c20
    hc := c21
    hs := of_decide_eq_true c22
    k1 := of_decide_eq_true c23
    kz := fun n hn => of_decide_eq_true (List.all_eq_true.mp c24 n hn)
    z_len := He.free_ok X G (fact 21 (f := .free "len") rfl)
    z_range := He.free_ok X G (fact 22 (f := .free "range") rfl)
    g_law_cell := He.glo_ok X G (fact 23 (f := .glo "_law_cell") rfl)
    g_law_take := He.glo_ok X G (fact 24 (f := .glo "_law_take") rfl)
    g_law_compared := He.glo_ok X G (fact 25 (f := .glo "_law_compared") rfl)
    g_law_due := He.glo_ok X G (fact 26 (f := .glo "_law_due") rfl)
    g_law_flags_fit := He.glo_ok X G (fact 27 (f := .glo "_law_flags_fit") rfl) }
theorem facts {P : Program} {w : World} {f : Addr} (X : K.In h) (G : h.Ns mainGlobals mg) (hfa : mg ("law" : Str) = some (.ref f)) (c : SaysM ex fn K) :
    ∃ fd : FuncData, (∀ (s : Shared) (v : Value), BindsTo s fd ⟨[v], []⟩ [("_law_script", v)]) ∧ ∀ base : Heap, K.In base → base.Ns mainGlobals mg → FnOk P w K mg base CX0 8 f fd ["_law_script"] (spLaw K) := by
  obtain ⟨d0, F0⟩ := c.fn 0
  obtain ⟨d1, F1⟩ := c.fn 1
  obtain ⟨d2, F2⟩ := c.fn 2
  obtain ⟨d3, F3⟩ := c.fn 3
  obtain ⟨d4, F4⟩ := c.fn 4
  obtain ⟨d5, F5⟩ := c.fn 5
  obtain ⟨d6, F6⟩ := c.fn 6
  obtain ⟨d7, F7⟩ := c.fn 7
  obtain ⟨d8, F8⟩ := c.fn 8
  obtain ⟨d9, F9⟩ := c.fn 9
  obtain ⟨d10, F10⟩ := c.fn 10
  obtain ⟨d11, F11⟩ := c.fn 11
  obtain ⟨d12, F12⟩ := c.fn 12
  obtain ⟨d13, F13⟩ := c.fn 13
  obtain ⟨d14, F14⟩ := c.fn 14
  obtain ⟨d15, F15⟩ := c.fn 15
  obtain ⟨d16, F16⟩ := c.fn 16
  have hl : He.ga K "law" = f := by
    have e := He.glo_ok X G (List.all_eq_true.mp (He.ba c.ex).1 (.glo "law") (List.mem_of_getElem? (i := 28) rfl))
    rw [hfa] at e
    cases e
    rfl
  have b := FunD.bindsA (ps := ["_law_script"]) F16 fun _ _ _ _ _ _ us hl => match us, hl with | [_], _ => rfl
  refine ⟨d16, fun s v => b s [v] rfl, fun base _ _ => ?_⟩
  have T := mk_Txt X G c.ex
  have M := mk_CMeth X G c.ex
  have S := T.toSTxt
  have A0 := ok_is_integer (P := P) (w := w) (base := base) F0 S
  have A1 := ok_BadShare_init (P := P) (w := w) (mg := mg) (base := base) F1
  have G2 := ok_Share_init (P := P) (w := w) (base := base) F2 S A0 A1
  have I2 := O_Share2 F2 G2
  have I1 := O_Share1 F2 G2
  have A4 := ok_is_number (P := P) (w := w) (base := base) F3 S A0
  have A5 := ok_parts (P := P) (w := w) (base := base) F4 S
  have C0 := ok_Share_eq F5 S A4 A5
  have C1 := ok_Share_ne F6 S M C0
  have C2 := ok_Share_lt F7 S A4 A5
  have C3 := ok_Share_le F8 S A4 A5
  have C4 := ok_Share_gt F9 S A4 A5
  have C5 := ok_Share_ge F10 S A4 A5
  have B1 := ok_law_take (P := P) (w := w) (base := base) F11 T
  have B2 := ok_law_cell (P := P) (w := w) (base := base) F12 T
  have D1 := ok_law_compared F13 T M C0 C1 C2 C3 C4 C5
  have D2 := ok_law_due (P := P) (w := w) (base := base) F14 T
  have D3 := ok_law_flags_fit (P := P) (w := w) (base := base) F15 T
  have r := ok_law F16 T M B2 B1 D1 D2 D3 I2 I1 C0 C1
  rw [← hl]
  exact r
end
end K3
open PySem PySem.W PySem.Calls PyProof.Rows
theorem PySem.Challenge.cw_seenshares_k03_share_order_holds : PySem.Challenge.rw_seenshares_k03_share_order.Holds := by
  w_on; o_law
  refine HandSHeadRun.head_imp (r := OpenLaw.row PySem.Challenge.rw_seenshares_k03_share_order) (q := view (OpenLaw.row PySem.Challenge.rw_seenshares_k03_share_order).prog [0, 17]) (H := K3.hk) (ob := K3.ob) (M := 100000) (loose := K3.names)
    (d := HandSHeadRun.topDef (OpenLaw.row PySem.Challenge.rw_seenshares_k03_share_order).prog 17) (kwd := []) K3.ob_eq K3.run (by kernel_rfl) (by kernel_rfl) (by kernel_rfl) (by rfl) (by first | assumption | decide +kernel) (by decide +kernel) ⟨rfl, rfl, rfl, rfl, rfl, by decide +kernel⟩ ?hw ?hc
  case hw => w_witness2
  case hc =>
    refine L2.walk_ofE (l := PySem.Challenge.rw_seenshares_k03_share_order) (n := 63) (k := 8) (x := "_law_script") (CX := L2.CX0) rfl (by decide) (by kernel_rfl) ⟨rfl, by decide, by decide⟩ ?F (fun _ _ _ _ z => z)
    intro w mg fa h Y G hmg0
    obtain ⟨K, KX, c⟩ := Y
    have hmg : mg ("law" : PySem.Str) = some (.ref fa) := by
      have e : (HandSHeadRun.topDef (OpenLaw.row PySem.Challenge.rw_seenshares_k03_share_order).prog 17).name = ("law" : PySem.Str) := by kernel_rfl
      rw [← e]
      exact hmg0
    obtain ⟨fd, hb, hF⟩ := K3.facts (P := (PySem.Challenge.rw_seenshares_k03_share_order).prog) (w := w) KX G hmg c
    exact ⟨K, fd, K3.spLaw K, KX, hb, fun H a ns hl _ hS => ⟨a, ns, rfl, hS, hl, fun _ => rfl⟩, hF⟩
#print axioms PySem.Challenge.cw_seenshares_k03_share_order_holds
