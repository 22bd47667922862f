import PyProof.Rows.All
import Wide.All
import OpenK.AllK
import Wide.FinOn
import PyProof.EqAt
import PyProof.EqKinds
import PyProof.TupleCall
import KE.KStateDown
import KE.KCallOwn
import HandS.ForExc
import HandS.Wide
import HandS.Gcd
import HandS.Defaults
import HandS.IsInst
import HandS.ExcInit
import HandS.ExcField
import HandS.ExcIs
import HandS.FStr
import HandS.Codes
import HandS.Dict
import HandS.Head0
import HandS.Head1
import HandS.Head2
import HandS.Head3
import HandS.HeadEnd
import HandS.HeadHook1
import HandS.HeadHook2
import KE.KExcIs
import KE.KOpsOwn
import PyProof.FactsAll.int_1
import PyProof.FactsAll.int_2
import PyProof.FactsAll.int_3
import PyProof.FactsAll.int_5
import HandS.TryOnly
import HandS.Small
import PyProof.FactsAll.str_1
import PyProof.FactsAll.tuple_1
import PyProof.FactsAll.list_1
import PyProof.FactsAll.dict_1
import PyProof.FactsAll.bool_1
import PyProof.FactsAll.NoneType_1
import HandS.OwnEq
import HandS.Comp
import PySem.Challenge.RW_seenshares_k04_whole_shares_are_exact
set_option Elab.async false
set_option linter.all false
set_option maxRecDepth 100000
set_option maxHeartbeats 2000000
namespace Vf
open PySem PySem.Spec PyProof.Rows L2
/-! ### defs at their places -/
abbrev Pl : Type := Str × Option Str
structure OkD (P : Program) (w : World) (K : PySem.W.Frag) (mg : Str → Option Value) (base : Heap) (CX : CXT) (k : Nat) (p : Pl) (ps : List Str) (dvs : List V) (sp : Sp) : Prop where
  ex : ∃ fd ds, FnOk P w K mg base CX k (He.fAd K p) fd ps sp ∧ Binds K fd ps ds ∧ Vals dvs ds
  kp : PySem.W.keepIn K (.ref (He.fAd K p)) = true
section
variable {X : Cx} {CX : CXT} {k j : Nat} {ps : List Str} {sp : Sp} {dvs : List V} {x m : Str} {p pos apos : Pos} {e o : Expr} {es : List Expr} {ta : TE} {t : TA}
theorem c_fn {E : XK} (O : OkD X.prog X.w X.K X.mg X.base CX k (x, none) ps dvs sp) (hr : Room j X.A) (hj : k ≤ j) (hm : X.mg x = some (.ref (He.ga X.K x))) (hx : Passes CX X E) (ha : PA X (e :: es) t) (hg : Gl X x := by rfl)
    (hdb : (x == ("__debug__" : Str)) = false := by decide) (he : starEach (e :: es) X.env = (false, eval e X.env) :: starEach es X.env := by rfl) (hpl : (backTo pos (starEach es X.env)).any (·.1) = false := by rfl) :
    PE X (.Call (.Name x p) (e :: es) [] pos) (tCall sp dvs E t) := by
  obtain ⟨fd, ds, F, b, v⟩ := O.ex
  exact pe_call F (hr.mono hj) hg hm O.kp b v hx ha hdb he hpl
theorem c_fnS {E : L2.St → XK} (O : OkD X.prog X.w X.K X.mg X.base CX k (x, none) ps [] sp) (hr : Room j X.A) (hj : k ≤ j) (hm : X.mg x = some (.ref (He.ga X.K x))) (hx : ∀ σ, PassesAt CX X σ (E σ)) (ha : PA X (e :: es) t) (hg : Gl X x := by rfl)
    (hdb : (x == ("__debug__" : Str)) = false := by decide) (he : starEach (e :: es) X.env = (false, eval e X.env) :: starEach es X.env := by rfl) (hpl : (backTo pos (starEach es X.env)).any (·.1) = false := by rfl) :
    PE X (.Call (.Name x p) (e :: es) [] pos) (tCallS sp E t) := by
  obtain ⟨fd, ds, F, b, v⟩ := O.ex
  cases v
  exact pe_callS F (hr.mono hj) hg hm O.kp b hx ha hdb he hpl
theorem mk_of {K : PySem.W.Frag} {x : Str} (c : (He.Fa.mkr x).ok K = true) : Mk K (He.ga K x) (He.fAd K (x, some "__init__")) := by
  obtain ⟨h1, h2⟩ := He.ba c
  obtain ⟨h2, h3⟩ := He.ba h2
  obtain ⟨h3, h4⟩ := He.ba h3
  exact ⟨h1, He.eqO_ok h2, h3, h4⟩
theorem meth_of {K : PySem.W.Frag} {x m : Str} (c : (He.Fa.meth x m).ok K = true) : Meth K (He.ga K x) m (He.fAd K (x, some m)) := by
  obtain ⟨h1, h2⟩ := He.ba c
  obtain ⟨h2, h3⟩ := He.ba h2
  exact ⟨He.eqO_ok h1, h2, h3⟩
theorem cls_of {K : PySem.W.Frag} {x : Str} (c : (He.Fa.cls x).ok K = true) : Cls K (He.ga K x) := by
  obtain ⟨h1, h2⟩ := He.ba c
  obtain ⟨h2, h3⟩ := He.ba h2
  obtain ⟨h3, h4⟩ := He.ba h3
  exact ⟨h1, h2, h3, He.eqO_ok h4⟩
theorem noat_of {K : PySem.W.Frag} {x f : Str} (c : (He.Fa.noat x f).ok K = true) : NoAttr K (He.ga K x) f := He.eqO_ok c
/-- C(e, ..) -/
theorem c_mk {E : XK} {C : Addr} (M : Mk X.K C (He.fAd X.K (x, some "__init__"))) (O : OkD X.prog X.w X.K X.mg X.base CX k (x, some "__init__") ps dvs sp) (hr : Room j X.A) (hj : k + 1 ≤ j) (hm : X.mg x = some (.ref C)) (hx : Passes CX X E) (ha : PA X (e :: es) t) (hg : Gl X x := by rfl)
    (hdb : (x == ("__debug__" : Str)) = false := by decide) (he : starEach (e :: es) X.env = (false, eval e X.env) :: starEach es X.env := by rfl) (hpl : (backTo pos (starEach es X.env)).any (·.1) = false := by rfl) :
    PE X (.Call (.Name x p) (e :: es) [] pos) (tMake C sp dvs E t) := by
  obtain ⟨fd, ds, F, b, v⟩ := O.ex
  exact pe_make M F (hr.mono hj) hg hm b v hx ha hdb he hpl
/-- o.m() -/
theorem c_me0 {E : XK} {C : Addr} {cn : Str} (hC : C = He.ga X.K cn) (he : PE X o ta) (c : Cls X.K C) (hm : Meth X.K C m (He.fAd X.K (cn, some m))) (O : OkD X.prog X.w X.K X.mg X.base CX k (cn, some m) ps dvs sp) (hr : Room j X.A) (hj : k ≤ j) (hx : Passes CX X E) {pl : Sem Bool}
    (ht : eval (.Call (.Attribute o m apos) [] [] pos) X.env = (do
      let ov ← eval o X.env
      standAt apos.atName
      let (f, first) ← holding [ov] (getMethod ov m pl)
      callWith pos f first (backTo pos (starEach [] X.env)) (backToKw pos (keywordEach [] X.env))) := by rfl) :
    PE X (.Call (.Attribute o m apos) [] [] pos) (tMeth C m sp dvs E ta tNil) := by
  obtain ⟨fd, ds, F, b, v⟩ := O.ex
  exact pe_meth0 he c hm F (hr.mono hj) b v hx ht
theorem c_me {E : XK} {C : Addr} {cn : Str} (hC : C = He.ga X.K cn) (hb : PE X o ta) (c : Cls X.K C) (hm : Meth X.K C m (He.fAd X.K (cn, some m))) (O : OkD X.prog X.w X.K X.mg X.base CX k (cn, some m) ps dvs sp) (hr : Room j X.A) (hj : k ≤ j) (hx : Passes CX X E) (ha : PA X (e :: es) t) {pl : Sem Bool}
    (hst : starEach (e :: es) X.env = (false, eval e X.env) :: starEach es X.env := by rfl) (hpl : (backTo pos (starEach es X.env)).any (·.1) = false := by rfl)
    (ht : eval (.Call (.Attribute o m apos) (e :: es) [] pos) X.env = (do
      let ov ← eval o X.env
      standAt apos.atName
      let (f, first) ← holding [ov] (getMethod ov m pl)
      callWith pos f first (backTo pos (starEach (e :: es) X.env)) (backToKw pos (keywordEach [] X.env))) := by rfl) :
    PE X (.Call (.Attribute o m apos) (e :: es) [] pos) (tMeth C m sp dvs E ta t) := by
  obtain ⟨fd, ds, F, b, v⟩ := O.ex
  exact pe_meth hb c hm F (hr.mono hj) b v hx ha hst hpl ht
end
/-! ### a try's body whose errors are wished for at any slots -/
theorem passAny {X : Cx} {W : WX} (n : Nat) (tk : Takes X W) (hn : X.N.length = n := by rfl) : Passes (L2.CX X.prog X.w) X (fun cls d H => ∀ σ : L2.St, σ.length = n → W cls d σ H) :=
  fun _ σ _ _ e s' I c => tk e s' (XE.of_call I (fun _ _ _ h => h σ (I.len.trans hn)) c)
/-! ### operators -/
section
variable {X : Cx}
/-- // by any divisor but 0 below 2 ^ 9000 -/
theorem op_fdivG : OpR X (binaryOp .FloorDiv) (rI (fun _ j => j ≠ 0 ∧ j.natAbs.log2 < 9000) fun i j => .int (i.fdiv j)) := opI fun i j _ _ _ _ _ hc q => floordiv_int hc.1 q (.inl (PyProof.noPylong_of_log2 hc.2))
/-- a built-in class as a value -/
theorem pe_ty {x : Str} {n : String} {pos : Pos} (hm : X.mg x = none) (hv : bootBuiltins x = some (.type n)) (hg : Gl X x := by rfl) (hn : x ≠ "__name__" := by decide) (hd : (x == ("__debug__" : Str)) = false := by decide) : PE X (.Name x pos) (tC (.ty n)) := pe_bltn hg hm hv rfl hn hd
/-- a class of the text as a value -/
theorem pe_cl {x : Str} {a : Addr} {pos : Pos} (hm : X.mg x = some (.ref a)) (hg : Gl X x := by rfl) (hd : (x == ("__debug__" : Str)) = false := by decide) : PE X (.Name x pos) (tC (.ref a)) := pe_glob hg hm rfl hd
/-- str(o), o of a class of the text that has its own __str__ -/
def rStrO (C : Addr) (sp : Sp) : List V → Hp → VK → Prop := fun xs H Q => ∃ a dx fs, xs = [.ref a] ∧ H a = some (.ins C dx fs) ∧ sp [.ref a] H (fun v H' => ∃ z, v = .str z ∧ Q (.str z) H') fun _ _ _ => False
theorem call_strO {k j : Nat} {C : Addr} {cn : Str} {ps : List Str} {sp : Sp} (hC : C = He.ga X.K cn) (hm : Meth X.K C "__str__" (He.fAd X.K (cn, some "__str__"))) (O : OkD X.prog X.w X.K X.mg X.base CX0 k (cn, some "__str__") ps [] sp) (hr : Room j X.A) (hj : k + 2 ≤ j) :
    CallR X (.type "str") (rStrO C sp) := by
  obtain ⟨fd, ds, F, b, v⟩ := O.ex
  cases v
  intro pins s σ H xs us Q I r h
  obtain ⟨a, dx, fs, rfl, ha, hsp⟩ := h
  obtain ⟨u, rfl, ru⟩ : ∃ u, us = [u] ∧ RelV (.ref a) u := by
    cases r with
    | cons p q => cases q; exact ⟨_, rfl, p⟩
  cases ru
  obtain ⟨mA, J, _⟩ := ins_get I.hok ha
  obtain ⟨od, J, _⟩ := J.look
  have hr2 : Room k X.A.in1.in1 := ((hr.mono hj).in1).in1
  refine PySem.W.kso_call hr2.units0 I.kIn J hm.at_ hm.fn ?_
  have hl := F.len _ _ _ _ hsp
  have hb := b s [.ref a] I.kIn (by simpa using hl)
  simp only [List.append_nil] at hb
  refine wpAny_call (codeAny_mono (F.run X.A.in1.in1 X.stack s H ⟨[.ref a], []⟩ [.ref a] [.ref a] _ _ hr2 I.env0.in1.in1 hb (.cons rfl .nil) hsp) fun r s' hq => ?_)
  cases r with
  | error e => exact hq.elim
  | ok fl =>
    cases fl with
    | ret w =>
      obtain ⟨z, H', I', rz, y, ez, q⟩ := I.after hq
      subst ez
      obtain ⟨tk, rfl⟩ := rz
      exact ⟨.str y, H', I', ⟨tk, rfl⟩, q⟩
    | next => exact False.elim hq
    | brk => exact False.elim hq
    | cont => exact False.elim hq
end
end Vf

set_option Elab.async false
set_option linter.all false
set_option maxRecDepth 100000
set_option maxHeartbeats 2000000
namespace Vf
open PySem PySem.Spec PyProof.Rows L2
/-! ### ints and other values -/
/-- a value that is no integer -/
inductive Odd (H : Hp) : V → Prop where
  | bl (b : Bool) : Odd H (.bl b)
  | non : Odd H .non
  | str (z : Str) : Odd H (.str z)
  | tup {a : Addr} {xs : List V} (h : H a = some (.tup xs)) : Odd H (.ref a)
  | lst {a : Addr} {xs : List V} (h : H a = some (.lst xs)) : Odd H (.ref a)
  | dic {a : Addr} {kvs : List (Key × V)} (h : H a = some (.dK kvs)) : Odd H (.ref a)
theorem Odd.ext {H H' : Hp} {x : V} (o : Odd H x) (s : Same H H') : Odd H' x := by
  cases o with
  | bl b => exact .bl b
  | non => exact .non
  | str z => exact .str z
  | tup h => exact .tup (s _ _ h)
  | lst h => exact .lst (s _ _ h)
  | dic h => exact .dic (s _ _ h)
theorem odd_ty (K : PySem.W.Frag) {H : Hp} {x : V} (o : Odd H x) : ∃ (n : String) (b1 b2 : Bool), TyX K H x (.type n) ∧ kitB n "int" = some b1 ∧ kitB n "bool" = some b2 ∧ (b1 && !b2) = false := by
  cases o with
  | bl b => exact ⟨"bool", true, true, .base (.bl b), by decide +kernel, by decide +kernel, rfl⟩
  | non => exact ⟨"NoneType", false, false, .base .non, by decide +kernel, by decide +kernel, rfl⟩
  | str z => exact ⟨"str", false, false, .base (.str z), by decide +kernel, by decide +kernel, rfl⟩
  | tup h => exact ⟨"tuple", false, false, .base (.tup h), by decide +kernel, by decide +kernel, rfl⟩
  | lst h => exact ⟨"list", false, false, .base (.lst h), by decide +kernel, by decide +kernel, rfl⟩
  | dic h => exact ⟨"dict", false, false, .base (.dK h), by decide +kernel, by decide +kernel, rfl⟩
theorem int_ty (K : PySem.W.Frag) (H : Hp) (n : Int) : TyX K H (.int n) (.type "int") ∧ kitB "int" "int" = some true ∧ kitB "int" "bool" = some false :=
  ⟨.base (.int n), by decide +kernel, by decide +kernel⟩
/-- is_integer(x) -/
def spIsInt : Sp := fun vs H Q _ => ∃ x, vs = [x] ∧ (((∃ n, x = .int n) ∧ Q (.bl true) H) ∨ (Odd H x ∧ Q (.bl false) H))
def t_isint (K : PySem.W.Frag) : TS := tRet (tAndV (tCB (rIsi K) (tCons (tVar 0) (tCons (tC (.ty "int")) tNil))) (tNotV (tCB (rIsi K) (tCons (tVar 0) (tCons (tC (.ty "bool")) tNil)))))
theorem run_isint {K : PySem.W.Frag} {N : List Str} {vs : List V} {H : Hp} {Q : VK} {E : XK} (h : spIsInt vs H Q E) : t_isint K { nx := fun _ H' => Q .non H', rt := Q } (start N vs) H := by
  obtain ⟨x, rfl, h⟩ := h
  have s0 : (start N [x])[0]? = some (some x) := rfl
  rcases h with ⟨⟨n, rfl⟩, q⟩ | ⟨o, q⟩
  · obtain ⟨t1, k1, k2⟩ := int_ty K H n
    refine ⟨_, s0, _, .ty "int", _, .type "int", true, rfl, .ty _, t1, kit_ty k1, true, rfl, ?_⟩
    refine iteT ?_
    exact ⟨_, s0, _, .ty "bool", _, .type "bool", false, rfl, .ty _, t1, kit_ty k2, false, rfl, q⟩
  · obtain ⟨n, b1, b2, t1, k1, k2, e⟩ := odd_ty K o
    refine ⟨_, s0, _, .ty "int", _, .type "int", b1, rfl, .ty _, t1, kit_ty k1, b1, rfl, ?_⟩
    cases b1 with
    | false => exact iteF q
    | true =>
      cases b2 with
      | false => cases e
      | true =>
        refine iteT ?_
        exact ⟨_, s0, _, .ty "bool", _, .type "bool", true, rfl, .ty _, t1, kit_ty k2, true, rfl, q⟩
/-! ### the draws -/
/-- _law_cell(script, k): some int -/
def spCell (K : PySem.W.Frag) : Sp := fun vs H Q _ => ∃ (l : Addr) (ns : List Int) (j : Nat), vs = [.ref l, .int (j : Int)] ∧ SqL K H l (ns.map V.int) ∧ j < 1000 ∧ ∀ n : Int, Q (.int n) H
/-- _law_take(draw, size) -/
def spTake : Sp := fun vs H Q _ => ∃ (d : Addr) (n s : Int), vs = [.ref d, .int s] ∧ H d = some (.lst [.int n]) ∧ 0 < s ∧ s < 1073741824 ∧ ∀ r m : Int, 0 ≤ r → r < s → Q (.int r) (upd H d (.lst [.int m]))
theorem atI0 {α : Type} {x : α} {xs : List α} : atI (x :: xs) 0 = some x := by simp [atI, ixN]
theorem atI1 {α : Type} {x y : α} {xs : List α} : atI (x :: y :: xs) 1 = some y := by
  have h : ixN (x :: y :: xs).length 1 = some 1 := by
    unfold ixN
    rw [if_pos (by omega), if_pos (by simp only [List.length_cons]; omega)]
    rfl
  unfold atI
  rw [h]
  rfl
theorem ixN0 {n : Nat} : ixN (n + 1) 0 = some 0 := by
  unfold ixN
  rw [if_pos (by omega), if_pos (by omega)]
  all_goals rfl
abbrev rAddI : R2 := rI0 fun i j => .int (i + j)
abbrev rModI : R2 := rI (fun _ j => 0 < j) fun i j => .int (i % j)
end Vf

set_option Elab.async false
set_option linter.all false
set_option maxRecDepth 100000
set_option maxHeartbeats 2000000
namespace Vf
open PySem PySem.Spec PyProof.Rows L2
/-! ### own errors: class C(..): def __init__(self, f): self.f = f -/
def oexB (K : PySem.W.Frag) (C : Addr) : Bool := match K.lookup C with
  | some ⟨.type "type", _, .cls cd, sl⟩ => (match cd.mro, sl.toList with
    | .ref C' :: bm, [_, _, _, _, some (.builtin n), _] => C' == C && n == "ValueError.__new__" && !cd.hasDel && cd.hasDict && PySem.HandSPX.refsVE bm
    | _, _ => false)
  | _ => false
theorem oexB_ok {K : PySem.W.Frag} {C : Addr} (q : oexB K C = true) : ∃ nm qn N bs bm sn sub ab col dd k0 k1 k2 k3 k5, K.lookup C = some (excClassObj nm qn C N bs bm true sn sub ab col dd k0 k1 k2 k3 k5 "ValueError.__new__") ∧ PySem.HandSPX.refsVE bm = true := by
  unfold oexB at q
  split at q
  · rename_i dd cd sl ho
    split at q
    · rename_i C' bm k0 k1 k2 k3 n k5 hm hs
      simp only [Bool.and_eq_true, beq_iff_eq, Bool.not_eq_true'] at q
      obtain ⟨⟨⟨⟨e1, e2⟩, hdel⟩, hh⟩, hbm⟩ := q
      obtain ⟨nm, bs, mro, ns, qn, hd, sn, sub, ab, col, del⟩ := cd
      obtain ⟨l⟩ := sl
      dsimp only at hm hdel hh hs
      subst hm hdel hh hs e1 e2
      exact ⟨nm, qn, ns, bs, bm, sn, sub, ab, col, dd, k0, k1, k2, k3, k5, ho, hbm⟩
    · cases q
  · cases q
/-- what is told of the error class x whose __init__ keeps its argument as f -/
structure ExD (K : PySem.W.Frag) (x : Str) : Prop where
  o : OexC K (He.ga K x)
  gg : PySem.W.findIn K (.ref (He.ga K x)) "__getattr__" = some none
  ga : PySem.W.findIn K (.ref (He.ga K x)) "__getattribute__" = some (some (.builtin "BaseException.__getattribute__"))
  ha : PySem.W.findIn K (.ref (He.ga K x)) "__class__" = some (some (.builtin "object.__class__"))
  hm : PySem.W.mroIn K (He.ga K x) (.type "object") = some true
  hd : PySem.W.hasDictIn K (He.ga K x) = true
  hcl : (PySem.W.clsIn K (He.ga K x)).isSome = true
def exD (K : PySem.W.Frag) (x : Str) : Bool :=
  oexB K (He.ga K x) && (He.eqO (PySem.W.findIn K (.ref (He.ga K x)) "__setattr__") (some (some (.builtin "object.__setattr__"))) && (decide (PySem.W.subIn K (.ref (He.ga K x)) (.type "BaseException") = some true) && (decide (PySem.W.typeIn K (.ref (He.ga K x)) = some (.type "type")) && (PySem.W.keepIn K (.ref (He.ga K x)) &&
  (He.eqO (PySem.W.findIn K (.ref (He.ga K x)) "__getattr__") (some none) && (He.eqO (PySem.W.findIn K (.ref (He.ga K x)) "__getattribute__") (some (some (.builtin "BaseException.__getattribute__"))) && (He.eqO (PySem.W.findIn K (.ref (He.ga K x)) "__class__") (some (some (.builtin "object.__class__"))) &&
  (decide (PySem.W.mroIn K (He.ga K x) (.type "object") = some true) && (PySem.W.hasDictIn K (He.ga K x) && (PySem.W.clsIn K (He.ga K x)).isSome)))))))))
theorem exD_ok {K : PySem.W.Frag} {x : Str} (h : exD K x = true) : ExD K x := by
  obtain ⟨h1, h⟩ := He.ba h
  obtain ⟨h2, h⟩ := He.ba h
  obtain ⟨h3, h⟩ := He.ba h
  obtain ⟨h4, h⟩ := He.ba h
  obtain ⟨h5, h⟩ := He.ba h
  obtain ⟨h6, h⟩ := He.ba h
  obtain ⟨h7, h⟩ := He.ba h
  obtain ⟨h8, h⟩ := He.ba h
  obtain ⟨h9, h⟩ := He.ba h
  obtain ⟨h10, h11⟩ := He.ba h
  exact ⟨⟨oexB_ok h1, He.eqO_ok h2, of_decide_eq_true h3, of_decide_eq_true h4, h5⟩, He.eqO_ok h6, He.eqO_ok h7, He.eqO_ok h8, of_decide_eq_true h9, h10, h11⟩
/-- .. with its __init__ and its field f -/
structure ExI (K : PySem.W.Frag) (x f : Str) : Prop where
  d : ExD K x
  i : PySem.W.findIn K (.ref (He.ga K x)) "__init__" = some (some (.ref (He.fAd K (x, some "__init__"))))
  t : PySem.W.typeIn K (.ref (He.fAd K (x, some "__init__"))) = some (.type "function")
  n : PySem.W.findIn K (.ref (He.ga K x)) f = some none
def exI (K : PySem.W.Frag) (x f : Str) : Bool :=
  exD K x && (He.eqO (PySem.W.findIn K (.ref (He.ga K x)) "__init__") (some (some (.ref (He.fAd K (x, some "__init__"))))) && (decide (PySem.W.typeIn K (.ref (He.fAd K (x, some "__init__"))) = some (.type "function")) && He.eqO (PySem.W.findIn K (.ref (He.ga K x)) f) (some none)))
theorem exI_ok {K : PySem.W.Frag} {x f : Str} (h : exI K x f = true) : ExI K x f := by
  obtain ⟨h1, h⟩ := He.ba h
  obtain ⟨h2, h⟩ := He.ba h
  obtain ⟨h3, h4⟩ := He.ba h
  exact ⟨exD_ok h1, He.eqO_ok h2, of_decide_eq_true h3, He.eqO_ok h4⟩
/-- the __init__: self.f = v -/
def spExI (K : PySem.W.Frag) (C : Addr) (f : Str) : Sp := fun vs H Q _ => ∃ (a : Addr) (v : V), vs = [.ref a, v] ∧ OexC K C ∧ PySem.W.findIn K (.ref C) f = some none ∧ H a = some (exo a C none) ∧
  ∀ dx, H dx = none → dx ≠ a → Q .non (upd (upd H dx (exd dx [(f, v)])) a (exo a C (some dx)))
theorem run_exI {K : PySem.W.Frag} {C : Addr} {f : Str} {N : List Str} {vs : List V} {H : Hp} {Q : VK} {E : XK} (h : spExI K C f vs H Q E) : tOst K f (tVar 0) (tVar 1) { nx := fun _ H' => Q .non H', rt := Q } (start N vs) H := by
  obtain ⟨a, v, rfl, T, hn, ea, q⟩ := h
  have s0 : (start N [.ref a, v])[0]? = some (some (.ref a)) := rfl
  have s1 : (start N [.ref a, v])[1]? = some (some v) := rfl
  exact ⟨_, s1, _, s0, a, C, rfl, T, hn, .inl ⟨ea, fun dx h1 h2 => q dx h1 h2⟩⟩
/-- the heap behind the making: the error's own dict alone is new -/
theorem exc_heap {H : Hp} {a d : Addr} {o1 o2 o3 o4 : HO} (ha : H a = none) (hda : d ≠ a) : upd (del (upd (upd (upd H a o1) d o2) a o3) a) d o4 = upd H d o4 := by
  funext b
  by_cases h1 : b = d
  · rw [h1, upd_same, upd_same]
  · rw [upd_ne h1, upd_ne h1]
    by_cases h2 : b = a
    · rw [h2, del_same, ha]
    · rw [del_ne h2, upd_ne h2, upd_ne h1, upd_ne h2]
theorem pa_weak {X : Cx} {es : List Expr} {ta : TA} (ha : PA X es ta) : PA X es (fun σ H Q => ∃ R, ta σ H R ∧ ∀ vs H1, R vs H1 → Q vs H1) := ⟨fun pos pins s σ H Q I h => by
  obtain ⟨R, h1, h2⟩ := h
  exact thn (ha.run pos pins s σ H R I h1) fun us s1 ⟨vs, H1, I1, r, q⟩ => ⟨vs, H1, I1, r, h2 _ _ q⟩⟩
section
variable {X : Cx} {CX : CXT} {k j : Nat} {ps : List Str} {x f : Str} {p pos pos2 : Pos} {e : Expr} {es : List Expr} {ta : TA} {W : WX}
/-- raise C(e): the error's dict, new, holds f -/
def tRaiseI (C : Addr) (f : Str) (W : WX) (ta : TA) : TS := fun _ σ H => ta σ H fun vs H1 => ∃ v, vs = [v] ∧ ∀ d, H1 d = none → W (.ref C) (some d) σ (upd H1 d (.xd [(f, v)]))
theorem c_raise (T : ExI X.K x f) (O : OkD X.prog X.w X.K X.mg X.base CX0 k (x, some "__init__") ps [] (spExI X.K (He.ga X.K x) f)) (hr : Room j X.A) (hj : k + 1 ≤ j) (hm : X.mg x = some (.ref (He.ga X.K x))) (tk : Takes X W) (ha : PA X (e :: es) ta) (hc : X.calm = true := by rfl) (hg : Gl X x := by rfl)
    (hdb : (x == ("__debug__" : Str)) = false := by decide) (he : starEach (e :: es) X.env = (false, eval e X.env) :: starEach es X.env := by rfl) (hpl : (backTo pos (starEach es X.env)).any (·.1) = false := by rfl) :
    PS X (.Raise (some (.Call (.Name x p) (e :: es) [] pos)) none pos2) (tRaiseI (He.ga X.K x) f W ta) := by
  obtain ⟨fd, ds, F, b, v⟩ := O.ex
  cases v
  refine ⟨fun pins s σ H D I h => (ps_raise hc tk (pmk_oex (p := p) T.d.o T.i T.t F (hr.mono hj) b .nil pass0 hg hm (pa_weak ha) hdb he hpl)).run pins s σ H D I ?_⟩
  refine ⟨_, h, fun vs H1 z => ?_⟩
  obtain ⟨v, rfl, q⟩ := z
  refine ⟨(by show 1 ≤ 1000; decide), fun a na => ⟨a, v, rfl, T.d.o, T.n, upd_same, fun dx h1 h2 => ?_⟩⟩
  have hdx : H1 dx = none := by
    rw [upd_ne h2] at h1
    exact h1
  refine ⟨rfl, dx, [(f, v)], upd_same, ?_, hdx, ?_⟩
  · rw [upd_ne h2, upd_same]
  · rw [exc_heap na h2]
    exact q dx hdx
end
/-! ### isinstance(e, c) of a caught error -/
section
variable {X : Cx}
theorem call_isiE {a D : Addr} {d : Option Addr} {oe : Obj} {pn : List (Addr × Obj)} {x : Str} (hD : D = He.ga X.K x) (T : ExD X.K x) (hn : PySem.W.specialIn X.K (.builtin "object.__class__") "__get__" = some (some (.builtin "getset_descriptor.__get__")))
    (ht : PySem.W.takesIn X.K (.builtin "object.__class__") = some true) {cls : Value} (hz : Zc cls d oe) (hf : ∃ vs, oe.data = .fields vs) : CallR (X.suite a ((a, oe) :: pn)) (.builtin "isinstance")
      (fun xs H Q => ∃ (c : V) (cv : Value) (b : Bool), xs = [.ref a, c] ∧ cls = .ref D ∧ ClsV c cv ∧ PySem.W.kitOne X.K (.ref D) cv = some b ∧ (∃ dd fs, d = some dd ∧ H dd = some (.xd fs)) ∧ Q (.bl b) H) := by
  subst hD
  intro pins s σ H xs us Q I r h
  obtain ⟨c, cv, b, rfl, ec, hcv, e, ⟨dd, fs, ed, hdd⟩, q⟩ := h
  obtain ⟨u1, u2, rfl, r1, r2⟩ := vals2 r
  have e2 := hcv.eq r2
  subst e2
  cases r1
  obtain ⟨hget, _⟩ := I.pin (a, oe) (List.mem_append.mpr (.inl List.mem_cons_self))
  obtain ⟨vs, hv⟩ := hf
  subst ed ec
  obtain ⟨mA, ⟨od, es, ep, ho, _⟩, _⟩ := (show ObjOk X.prog X.w H s.heap dd (.xd fs) from I.hok dd _ hdd)
  have J : PySem.W.InstAt s.heap a oe (He.ga X.K x) (some od) := by
    obtain ⟨oc, odd, oda, osl⟩ := oe
    obtain ⟨h1, h2⟩ := hz
    dsimp only at h1 h2 hv
    subst h1 h2 hv
    exact ⟨hget, rfl, rfl, ho⟩
  exact PySem.W.kia_one (PySem.W.kitx_exc T.hcl T.ga T.gg T.o.exC T.ha hn ht T.hm) I.kIn J e (fun z => nomatch z) fun tk => ⟨.bl b, H, I.kept (t' := tk) fun _ _ z => z, rfl, q⟩
end
/-! ### the head's hook: any Bool over the written part, the defs -/
abbrev AlM : Type := Bool × List He.FnW
def obsM (ex : PySem.W.Frag → Bool) (fn : List He.DefD) (K : PySem.W.Frag) : AlM := (ex K && fn.all fun d => d.ok K, fn.map fun d => He.fnW K d.at_)
def SaysM (ex : PySem.W.Frag → Bool) (fn : List He.DefD) (K : PySem.W.Frag) : Prop := obsM ex fn K = (true, fn.map He.DefD.val)
def obsMG (n : Nat) (ex : PySem.W.Frag → Bool) (fn : List He.DefD) (g : Addr → Option Obj) : AlM := obsM ex fn (He.frG g (He.asD g n))
def hookM (n : Nat) (ex : PySem.W.Frag → Bool) (fn : List He.DefD) : PySem.W.Hook where
  α := AlM
  obs := fun s => obsMG n ex fn s.heap.get?
  val := fun _ => (true, fn.map He.DefD.val)
  says := fun _ h => ∃ K : PySem.W.Frag, K.In h ∧ SaysM ex fn K
  of := fun _ _ e => ⟨_, He.frG_in, e⟩
  keeps := fun _ _ _ ⟨K, hK, c⟩ k => ⟨K, PySem.W.Frag.In.keeps hK k, c⟩
theorem obsMG_eq {n : Nat} {ex : PySem.W.Frag → Bool} {fn : List He.DefD} {g : Addr → Option Obj} {s : Shared} (h : ∀ a, g a = s.heap.get? a) : obsMG n ex fn g = (hookM n ex fn).obs s := by
  have e : g = s.heap.get? := funext h
  rw [e]
  rfl
theorem SaysM.ex {ex : PySem.W.Frag → Bool} {fn : List He.DefD} {K : PySem.W.Frag} (c : SaysM ex fn K) : ex K = true := (He.ba (congrArg (fun z : AlM => z.1) c)).1
theorem SaysM.fn {ex : PySem.W.Frag → Bool} {fn : List He.DefD} {K : PySem.W.Frag} (c : SaysM ex fn K) (i : Nat) {d : He.DefD} (h : fn[i]? = some d := by rfl) : ∃ fd, FunD K d.name d.qual d.params d.body d.scope (d.dvs K) (d.kws K) (He.fAd K d.at_) fd := by
  have c2 := (He.ba (congrArg (fun z : AlM => z.1) c)).2
  have e : fn.map (fun d => He.fnW K d.at_) = fn.map He.DefD.val := congrArg (fun z : AlM => z.2) c
  have e2 : He.fnW K d.at_ = d.val := by
    have e3 : (fn.map fun d => He.fnW K d.at_)[i]? = (fn.map He.DefD.val)[i]? := by rw [e]
    simp only [List.getElem?_map, h, Option.map_some] at e3
    exact Option.some.inj e3
  exact He.DefD.funD e2 (List.all_eq_true.mp c2 d (List.mem_of_getElem? h))

end Vf

set_option Elab.async false
set_option linter.all false
set_option maxRecDepth 100000
set_option maxHeartbeats 2000000
namespace Vf
open PySem PySem.Spec PyProof.Rows L2
/-! ### Euclid's loop -/
def Eu (g B i x y : Nat) : Prop := Nat.gcd x y = g ∧ ((i % 2 = 0 ∧ y * 2 ^ (i / 2) ≤ B) ∨ (i % 2 = 1 ∧ y < x ∧ x * 2 ^ (i / 2) ≤ B))
theorem Eu.start (x y : Nat) : Eu (Nat.gcd x y) y 0 x y := ⟨rfl, .inl ⟨rfl, by simp⟩⟩
theorem Eu.step {g B i x y : Nat} (h : Eu g B i x y) (hy : y ≠ 0) : Eu g B (i + 1) y (x % y) := by
  obtain ⟨hg, h⟩ := h
  have hg2 : Nat.gcd y (x % y) = g := by
    rw [← hg, Nat.gcd_comm x y, Nat.gcd_rec y x, Nat.gcd_comm]
  have hlt : x % y < y := Nat.mod_lt x (by omega)
  refine ⟨hg2, ?_⟩
  rcases h with ⟨he, hb⟩ | ⟨ho, hxy, hb⟩
  · refine .inr ⟨by omega, hlt, ?_⟩
    have e : (i + 1) / 2 = i / 2 := by omega
    rw [e]
    exact hb
  · refine .inl ⟨by omega, ?_⟩
    have e : (i + 1) / 2 = i / 2 + 1 := by omega
    have hd := Nat.div_add_mod x y
    have h1 : 1 ≤ x / y := Nat.div_pos (by omega) (by omega)
    have h2 : y * 1 ≤ y * (x / y) := Nat.mul_le_mul_left y h1
    have h3 : 2 * (x % y) ≤ x := by omega
    rw [e, Nat.pow_succ]
    calc x % y * (2 ^ (i / 2) * 2) = (2 * (x % y)) * 2 ^ (i / 2) := by rw [Nat.mul_comm (2 ^ (i / 2)) 2, ← Nat.mul_assoc, Nat.mul_comm (x % y) 2]
      _ ≤ x * 2 ^ (i / 2) := Nat.mul_le_mul_right _ h3
      _ ≤ B := hb
theorem Eu.last {g B x y : Nat} (h : Eu g B 500 x y) (hB : B < 2 ^ 250) : x = g := by
  obtain ⟨hg, h⟩ := h
  rcases h with ⟨_, hb⟩ | ⟨ho, _⟩
  · have e : (500 : Nat) / 2 = 250 := rfl
    rw [e] at hb
    have hy : y = 0 := by
      rcases Nat.eq_zero_or_pos y with h0 | h0
      · exact h0
      · exfalso
        have : 1 * 2 ^ 250 ≤ y * 2 ^ 250 := Nat.mul_le_mul_right _ h0
        omega
    rw [hy, Nat.gcd_zero_right] at hg
    exact hg
  · omega
theorem Eu.zero {g B i x : Nat} (h : Eu g B i x 0) : x = g := by
  have hg := h.1
  rw [Nat.gcd_zero_right] at hg
  exact hg
/-! ### lowest terms -/
def nG (t b : Int) : Int := ((Nat.gcd t.natAbs b.natAbs : Nat) : Int)
def nC (t b : Int) : Int := if b < 0 then -(nG t b) else nG t b
def nT (t b : Int) : Int := t.fdiv (nC t b)
def nB (t b : Int) : Int := b.fdiv (nC t b)
/-- a and b are t over b' in lowest terms -/
structure Nf (a b : Int) : Prop where
  pos : 0 < b
  cop : Nat.gcd a.natAbs b.natAbs = 1
structure NfOf (t u a b : Int) : Prop extends Nf a b where
  eq : a * u = t * b
  le1 : a.natAbs ≤ t.natAbs
  le2 : b.natAbs ≤ u.natAbs
theorem nG_pos {t b : Int} (hb : b ≠ 0) : 0 < nG t b := by
  have : 0 < Nat.gcd t.natAbs b.natAbs := Nat.gcd_pos_of_pos_right _ (by omega)
  unfold nG
  omega
theorem nC_abs (t b : Int) : (nC t b).natAbs = Nat.gcd t.natAbs b.natAbs := by
  unfold nC nG
  split <;> omega
theorem nC_ne {t b : Int} (hb : b ≠ 0) : nC t b ≠ 0 := by
  have := nG_pos (t := t) hb
  unfold nC
  split <;> omega
theorem nC_dvd1 (t b : Int) : nC t b ∣ t := by
  rw [← Int.natAbs_dvd_natAbs, nC_abs]
  exact Nat.gcd_dvd_left _ _
theorem nC_dvd2 (t b : Int) : nC t b ∣ b := by
  rw [← Int.natAbs_dvd_natAbs, nC_abs]
  exact Nat.gcd_dvd_right _ _
theorem nT_mul (t b : Int) : nT t b * nC t b = t := Int.fdiv_mul_cancel (nC_dvd1 t b)
theorem nB_mul (t b : Int) : nB t b * nC t b = b := Int.fdiv_mul_cancel (nC_dvd2 t b)
theorem nf_of (t : Int) {b : Int} (hb : b ≠ 0) : NfOf t b (nT t b) (nB t b) := by
  have e1 := nT_mul t b
  have e2 := nB_mul t b
  have hc := nC_ne (t := t) hb
  have ga := nC_abs t b
  have g0 : 0 < Nat.gcd t.natAbs b.natAbs := Nat.gcd_pos_of_pos_right _ (by omega)
  have a1 : (nT t b).natAbs * Nat.gcd t.natAbs b.natAbs = t.natAbs := by rw [← ga, ← Int.natAbs_mul, e1]
  have a2 : (nB t b).natAbs * Nat.gcd t.natAbs b.natAbs = b.natAbs := by rw [← ga, ← Int.natAbs_mul, e2]
  refine ⟨⟨?_, ?_⟩, ?_, ?_, ?_⟩
  · rcases (show 0 < nB t b ∨ nB t b ≤ 0 by omega) with h | h
    · exact h
    · exfalso
      by_cases hn : b < 0
      · have hc2 : nC t b < 0 := by
          have := nG_pos (t := t) hb
          unfold nC
          rw [if_pos hn]
          omega
        have := Int.mul_nonneg_of_nonpos_of_nonpos h (Int.le_of_lt hc2)
        omega
      · have hc2 : 0 < nC t b := by
          have := nG_pos (t := t) hb
          unfold nC
          rw [if_neg hn]
          omega
        have := Int.mul_nonpos_of_nonpos_of_nonneg h (Int.le_of_lt hc2)
        omega
  · have h := Nat.gcd_mul_right (nT t b).natAbs (Nat.gcd t.natAbs b.natAbs) (nB t b).natAbs
    rw [a1, a2] at h
    have h2 : 1 * Nat.gcd t.natAbs b.natAbs = Nat.gcd (nT t b).natAbs (nB t b).natAbs * Nat.gcd t.natAbs b.natAbs := by rw [Nat.one_mul]; exact h
    exact (Nat.eq_of_mul_eq_mul_right g0 h2).symm
  · calc nT t b * b = nT t b * (nB t b * nC t b) := by rw [e2]
      _ = (nT t b * nC t b) * nB t b := by rw [Int.mul_comm (nB t b), Int.mul_assoc]
      _ = t * nB t b := by rw [e1]
  · calc (nT t b).natAbs = (nT t b).natAbs * 1 := by rw [Nat.mul_one]
      _ ≤ (nT t b).natAbs * Nat.gcd t.natAbs b.natAbs := Nat.mul_le_mul_left _ g0
      _ = t.natAbs := a1
  · calc (nB t b).natAbs = (nB t b).natAbs * 1 := by rw [Nat.mul_one]
      _ ≤ (nB t b).natAbs * Nat.gcd t.natAbs b.natAbs := Nat.mul_le_mul_left _ g0
      _ = b.natAbs := a2
/-- bits: below 2 ^ n -/
def Bit (n : Nat) (x : Int) : Prop := x.natAbs < 2 ^ n
theorem Bit.mono {n m : Nat} {x : Int} (h : Bit n x) (l : n ≤ m) : Bit m x := Nat.lt_of_lt_of_le h (Nat.pow_le_pow_right (by decide) l)
theorem Bit.le {n : Nat} {x y : Int} (h : Bit n y) (l : x.natAbs ≤ y.natAbs) : Bit n x := Nat.lt_of_le_of_lt l h
theorem Bit.mul {n m : Nat} {x y : Int} (h : Bit n x) (h' : Bit m y) : Bit (n + m) (x * y) := by
  unfold Bit
  rw [Int.natAbs_mul, Nat.pow_add]
  exact Nat.mul_lt_mul'' h h'
theorem Bit.add {n : Nat} {x y : Int} (h : Bit n x) (h' : Bit n y) : Bit (n + 1) (x + y) := by
  unfold Bit at *
  rw [Nat.pow_succ]
  omega
theorem Bit.sub {n : Nat} {x y : Int} (h : Bit n x) (h' : Bit n y) : Bit (n + 1) (x - y) := by
  unfold Bit at *
  rw [Nat.pow_succ]
  omega
theorem Bit.neg {n : Nat} {x : Int} (h : Bit n x) : Bit n (-x) := by
  unfold Bit at *
  omega
theorem Bit.log {n m : Nat} {x : Int} (h : Bit n x) (h0 : 0 < n) (hm : n ≤ m) : x.natAbs.log2 < m := Nat.lt_of_lt_of_le (PySem.Flt.log2_lt_of h0 h) hm
theorem Bit.wm {n m : Nat} {x y : Int} (h : Bit n x) (h' : Bit m y) (h0 : 0 < n) (h1 : 0 < m) (l : n + m ≤ 1000000) : CMulW x y := wide_mul h h' h0 h1 l
end Vf

set_option Elab.async false
set_option linter.all false
set_option maxRecDepth 100000
set_option maxHeartbeats 2000000
namespace Vf
open PySem PySem.Spec PyProof.Rows L2
section
open PySem.W PySem.Calls
variable {prog : Program} {w : World} {A : Around} {E : Value → Shared → Prop} {s : Shared} {K : Frag} {x C f f0 L : Addr} {h₀ : Heap} {m : Str → Option Value} {ox : Obj} {od : Option Obj} {nm : String}
/-- a slot of int that is handed an instance of the text's own declines -/
theorem int_no {n : Int} {t : Tok} {name : String} {g : Int → Int → Sem Fin} {refl : Bool} (hd : ox.data = .plain) (hx : s.heap.get? x = some ox) {Q : Fin → Shared → Prop}
    (h : Q (.done (.ret .notImplemented)) s) : wpAny (model prog w) A (PySem.Builtin.Int.intBinary name g refl ⟨[.int n t, .ref x], []⟩) Q E s := by
  obtain ⟨hp, gg, d, tk, os⟩ := s
  obtain ⟨oc, odd, oda, osl⟩ := ox
  dsimp only at hd
  subst hd
  unfold PySem.Builtin.Int.intBinary
  wp_walk using AutoSeq1.wpAny_loadPart' hx
  exact h
/-- B declines an instance of the text's own -/
def Declines (B : Builtin) : Prop := ∀ (prog : Program) (w : World) (A : Around) (E : Value → Shared → Prop) (s : Shared) (n : Int) (t : Tok) (x : Addr) (ox : Obj) (Q : Fin → Shared → Prop), ox.data = .plain → s.heap.get? x = some ox → Q (.done (.ret .notImplemented)) s → wpAny (model prog w) A (B ⟨[.int n t, .ref x], []⟩) Q E s
theorem decl_bin (name : String) (g : Int → Int → Sem Fin) (r : Bool) : Declines (PySem.Builtin.Int.intBinary name g r) := fun _ _ _ _ _ _ _ _ _ _ hd hx h => int_no hd hx h
theorem decl_fdv : Declines PySem.Builtin.«int.__floordiv__» := fun prog w A E s n t x ox Q hd hx h => by
  obtain ⟨hp, gg, d, tk, os⟩ := s
  obtain ⟨oc, odd, oda, osl⟩ := ox
  dsimp only at hd
  subst hd
  unfold PySem.Builtin.«int.__floordiv__» PySem.Builtin.exactOperandsForPylong
  have k := fun g => int_no (prog := prog) (w := w) (A := A) (E := E) (n := n) (t := t) (name := "__floordiv__") (g := g) (refl := false) (s := ⟨hp, gg, d, tk, os⟩) rfl hx h
  wp_walk using AutoSeq1.wpAny_loadPart' hx
  all_goals first | exact k _ | exact h
/-- n op x, n an int, x an instance of the text's own: int's slot declines, the reflected one of x's class is asked -/
theorem bin_int_own {op : Operator} {n : Int} {t : Tok} {id : String} {B : Builtin} {Q : Value → Shared → Prop} (X : K.In s.heap) (I : InstAt s.heap x ox C od) (hp : ox.data = .plain) (hc : selfFirst K C = true)
    (hs : findIn K (.ref C) (PySem.dunder op.info.2) = some (some (.ref f0))) (hr : findIn K (.ref C) (dunderR op.info.2) = some (some (.ref f))) (hf : isFn K (.ref f) = true) (hm : mroIn K C (.type "int") = some false)
    (hfT : fillsNumberSlot (.type "int") op.info.2 = pure true) (slot : Slot "int" (PySem.dunder op.info.2) id) (entry : entryFor table id = some B) (ha : argsOk id ⟨[.int n t, .ref x], []⟩)
    (hB : Declines B)
    (h : wpAny (model prog w) A (call (.ref f) [.ref x, .int n t]) (PySem.W.CmpBack Q) E s) : wpAny (model prog w) A (binaryOp op (.int n t) (.ref x)) Q E s := by
  obtain ⟨cd, rest, hcd, hmro⟩ := ksp_first hc
  rcases hi : op.info with ⟨sym, nm'⟩
  rw [hi] at hs hr slot hfT
  dsimp only at hs hr slot hfT
  have one := ksp_try X I hr hf h
  have two : wpAny (model prog w) A (tryMethod (.int n t) (PySem.dunder nm') (.ref x)) (fun r s' => r = none ∧ s' = s) E s :=
    wpAny_tryMethod_declines (typeIs_int s n t) slot (wpAny_call_entry slot (typeIs_int s n t) entry (hB _ _ _ _ _ _ _ _ _ _ hp I.at_ ⟨_, rfl, rfl, rfl, rfl⟩) ha)
  obtain ⟨hh, gg, d, tt, os⟩ := s
  have L1 : Looks (model prog w) hh (typeOf (.int n t)) (.type "int") := Looks.of_pure rfl
  have L2 : Looks (model prog w) hh (typeOf (.ref x)) (.ref C) := I.type
  have L3 : Looks (model prog w) hh (fillsNumberSlot (.type "int") nm') true := Looks.of_pure hfT
  have L4 : Looks (model prog w) hh (fillsNumberSlot (.ref C) nm') true := fills_K X hcd hmro hs
  have L5 : Looks (model prog w) hh (isSubtype (.ref C) (.type "int")) false := looks_mroIn X hm
  have L6 : Looks (model prog w) hh (numberSlotInPython (.type "int") nm') false := Looks.of_pure rfl
  have hne : (Value.type "int" == Value.ref C) = false := Bool.eq_false_iff.mpr fun q => by cases beq_iff_eq.mp q
  simp only [binaryOp, hi]
  refine wpAny_holding (wpAny_bind ?_)
  unfold binaryOp1
  refine wpAny_bind (L1.at (wpAny_bind (L2.at (wpAny_bind (L3.at ?_)))))
  simp only [hne, Bool.false_eq_true, if_false]
  ksp_lk
  refine wpAny_mono two (fun r s' hr' => ?_) fun _ _ e => e
  obtain ⟨rfl, rfl⟩ := hr'
  ksp_lk
  refine wpAny_mono one (fun r s' hr' => ?_) fun _ _ e => e
  obtain ⟨v, rfl, hq⟩ := hr'
  ksp_lk
  exact hq
/-- n ? x for a comparison: int's slot declines, the swapped one of x's class is asked -/
theorem cmp_int_own {op : CmpOp} {n : Int} {t : Tok} {id : String} {B : Builtin} {Q : Value → Shared → Prop} (hu : A.units < cLine) (X : K.In s.heap) (I : InstAt s.heap x ox C od) (hp : ox.data = .plain)
    (hr : findIn K (.ref C) (cmpInfo op).2.2 = some (some (.ref f))) (hf : isFn K (.ref f) = true) (hm : mroIn K C (.type "int") = some false)
    (slot : Slot "int" (cmpInfo op).2.1 id) (entry : entryFor table id = some B) (ha : argsOk id ⟨[.int n t, .ref x], []⟩) (hB : Declines B)
    (h : wpAny (model prog w) A (call (.ref f) [.ref x, .int n t]) (PySem.W.CmpBack Q) E s) : wpAny (model prog w) A (richCompare op (.int n t) (.ref x)) Q E s := by
  have one : wpAny (model prog w) A (tryCompare (.ref x) (cmpInfo op).2.2 (.int n t)) (fun r s' => ∃ v, r = some v ∧ Q v s') E s := by
    unfold tryCompare
    refine wpAny_bind (ifBound_K X I hr hf (wpAny_mono h (fun v s' hv => ?_) fun _ _ e => e))
    cases v <;> first | exact hv.elim | exact wpAny_pure ⟨_, rfl, hv⟩
  have two : wpAny (model prog w) A (tryCompare (.int n t) (cmpInfo op).2.1 (.ref x)) (fun r s' => r = none ∧ s' = s) E s :=
    wpAny_tryCompare_declines (typeIs_int s n t) slot (wpAny_call_entry slot (typeIs_int s n t) entry (hB _ _ _ _ _ _ _ _ _ _ hp I.at_ ⟨_, rfl, rfl, rfl, rfl⟩) ha)
  have ot : oneThing? op (.int n t) (.ref x) = none := rfl
  have hne : (Value.type "int" != Value.ref C) = true := bne_iff_ne.mpr fun q => by cases q
  unfold richCompare
  simp only [ot]
  refine wpAny_holding (wpAny_bind (wpAny_cRoomFor hu ?_))
  refine wpAny_bind ((Looks.of_pure rfl : Looks (model prog w) s.heap (typeOf (.int n t)) (.type "int")).here (wpAny_bind (I.type.here ?_)))
  simp only [hne, if_true]
  refine wpAny_bind ((looks_mroIn X hm).here ?_)
  simp only [Bool.false_eq_true, if_false]
  refine wpAny_bind (wpAny_mono two (fun r s' z => ?_) fun _ _ e => e)
  obtain ⟨rfl, rfl⟩ := z
  simp only [Bool.not_false, if_true]
  refine wpAny_bind (wpAny_mono one (fun r s' z => ?_) fun _ _ e => e)
  obtain ⟨v, rfl, hq⟩ := z
  exact wpAny_pure hq
end
/-! ### readings over the layer -/
section
variable {X : Cx} {CX : CXT} {k j : Nat} {C : Addr} {cn m : Str} {ps : List Str} {sp : Sp} {E : XK}
theorem back_of {pins : List (Addr × Obj)} {σ : L2.St} {Q : VK} {u : Value} {s' : Shared} (h : EP X pins σ Q u s') : PySem.W.CmpBack (EP X pins σ Q) u s' := by
  obtain ⟨v, H', I, r, q⟩ := id h
  cases v with
  | non => cases (show u = Value.none from r); exact h
  | bl b => cases (show u = Value.bool b from r); exact h
  | int i => obtain ⟨t, e⟩ := (show ∃ t, u = Value.int i t from r); cases e; exact h
  | str z => obtain ⟨t, e⟩ := (show ∃ t, u = Value.str z t from r); cases e; exact h
  | byt z => obtain ⟨t, e⟩ := (show ∃ t, u = Value.bytes z t from r); cases e; exact h
  | flt z => obtain ⟨t, e⟩ := (show ∃ t, u = Value.float z t from r); cases e; exact h
  | ref a => cases (show u = Value.ref a from r); exact h
  | ty n => cases (show u = Value.type n from r); exact h
/-- a method of the text's own asked by the machine, at the running body's own depth -/
theorem run_own {f : Addr} {fd : FuncData} {pins : List (Addr × Obj)} {σ : L2.St} {H : Hp} {s : Shared} {Q : VK} {us : List Value} {vs : List V} (F : FnOk X.prog X.w X.K X.mg X.base CX k f fd ps sp) (hr : Room k X.A) (hb : L2.Binds X.K fd ps []) (hx : Passes CX X E)
    (I : L2.Inv X pins σ H s) (r : Vals vs us) (h : sp vs H Q E) : wpAny (model X.prog X.w) X.A (call (.ref f) us) (PySem.W.CmpBack (EP X pins σ Q)) X.xe s :=
  wpAny_mono (run_fn F hr hb .nil hx I r (by rw [List.append_nil]; exact h)) (fun _ _ z => back_of z) fun _ _ z => z
/-- o op p, both of the class at C -/
def rOO (C : Addr) (sp : Sp) (E : XK) : R2 := fun x y H Q => ∃ a b dx dy fs gs, x = .ref a ∧ y = .ref b ∧ H a = some (.ins C dx fs) ∧ H b = some (.ins C dy gs) ∧ sp [x, y] H Q E
/-- o op n, n an int -/
def rOI (C : Addr) (sp : Sp) (E : XK) : R2 := fun x y H Q => ∃ a n dx fs, x = .ref a ∧ y = .int n ∧ H a = some (.ins C dx fs) ∧ sp [x, y] H Q E
/-- n op o, n an int: the reflected method -/
def rIO (C : Addr) (sp : Sp) (E : XK) : R2 := fun x y H Q => ∃ n b dx fs, x = .int n ∧ y = .ref b ∧ H b = some (.ins C dx fs) ∧ sp [y, x] H Q E
theorem op_oo {op : Operator} (hd : PySem.dunder op.info.2 = m) (M : Meth X.K C m (He.fAd X.K (cn, some m))) (hc : PySem.W.selfFirst X.K C = true) (O : OkD X.prog X.w X.K X.mg X.base CX k (cn, some m) ps [] sp) (hr : Room j X.A) (hj : k ≤ j) (hx : Passes CX X E) : OpR X (binaryOp op) (rOO C sp E) := by
  obtain ⟨fd, ds, F, b, v⟩ := O.ex
  cases v
  intro pins s σ H x y v u Q I rx ry h
  obtain ⟨a, b', dx, dy, fs, gs, rfl, rfl, ha, hb, hsp⟩ := h
  cases rx
  cases ry
  obtain ⟨mA, J, _⟩ := ins_get I.hok ha
  obtain ⟨mB, J', _⟩ := ins_get I.hok hb
  obtain ⟨od, J, _⟩ := J.look
  obtain ⟨od', J', _⟩ := J'.look
  obtain ⟨mm, hF⟩ := I.fr
  exact PySem.W.binop_K hF I.ok.mod.kin J J'.type hc (by rw [hd]; exact M.at_) M.fn (run_own (vs := [V.ref a, V.ref b']) F (hr.mono hj) b hx I (.cons rfl (.cons rfl .nil)) hsp)
theorem op_oi {op : Operator} {fo ro rc : Option Value} (hd : PySem.dunder op.info.2 = m) (M : Meth X.K C m (He.fAd X.K (cn, some m))) (hc : PySem.W.selfFirst X.K C = true) (h2 : PySem.W.findIn X.K (.ref C) (dunderR op.info.2) = some rc) (hp : rc = none ∨ ∃ g : Addr, rc = some (.ref g))
    (h3 : PySem.W.findIn X.K (.type "int") (PySem.dunder op.info.2) = some fo) (h4 : PySem.W.findIn X.K (.type "int") (dunderR op.info.2) = some ro) (h5 : PySem.W.subIn X.K (.type "int") (.ref C) = some false)
    (O : OkD X.prog X.w X.K X.mg X.base CX k (cn, some m) ps [] sp) (hr : Room j X.A) (hj : k ≤ j) (hx : Passes CX X E) : OpR X (binaryOp op) (rOI C sp E) := by
  obtain ⟨fd, ds, F, b, v⟩ := O.ex
  cases v
  intro pins s σ H x y v u Q I rx ry h
  obtain ⟨a, n, dx, fs, rfl, rfl, ha, hsp⟩ := h
  cases rx
  obtain ⟨t, rfl⟩ := ry
  obtain ⟨mA, J, _⟩ := ins_get I.hok ha
  obtain ⟨od, J, _⟩ := J.look
  obtain ⟨mm, hF⟩ := I.fr
  exact PySem.W.ksp_binT hF I.ok.mod.kin J rfl hc (by rw [hd]; exact M.at_) M.fn h2 hp h3 h4 h5 (run_own (vs := [V.ref a, V.int n]) F (hr.mono hj) b hx I (.cons rfl (.cons ⟨t, rfl⟩ .nil)) hsp)
theorem op_io {op : Operator} {f0 : Addr} {id : String} {B : Builtin} (hd : dunderR op.info.2 = m) (M : Meth X.K C m (He.fAd X.K (cn, some m))) (hc : PySem.W.selfFirst X.K C = true) (h2 : PySem.W.findIn X.K (.ref C) (PySem.dunder op.info.2) = some (some (.ref f0))) (hm : PySem.W.mroIn X.K C (.type "int") = some false)
    (hfT : fillsNumberSlot (.type "int") op.info.2 = pure true) (slot : Slot "int" (PySem.dunder op.info.2) id) (entry : entryFor table id = some B) (ha : ∀ a b, argsOk id ⟨[a, b], []⟩) (hB : Declines B)
    (O : OkD X.prog X.w X.K X.mg X.base CX k (cn, some m) ps [] sp) (hr : Room j X.A) (hj : k ≤ j) (hx : Passes CX X E) : OpR X (binaryOp op) (rIO C sp E) := by
  obtain ⟨fd, ds, F, b, v⟩ := O.ex
  cases v
  intro pins s σ H x y v u Q I rx ry h
  obtain ⟨n, b', dx, fs, rfl, rfl, hb, hsp⟩ := h
  obtain ⟨t, rfl⟩ := rx
  cases ry
  obtain ⟨mA, J, _⟩ := ins_get I.hok hb
  obtain ⟨od, J, _⟩ := J.look
  exact bin_int_own I.kIn J rfl hc h2 (by rw [hd]; exact M.at_) M.fn hm hfT slot entry (ha _ _) hB (run_own (vs := [V.ref b', V.int n]) F (hr.mono hj) b hx I (.cons rfl (.cons ⟨t, rfl⟩ .nil)) hsp)
/-- -o -/
def rUO (C : Addr) (sp : Sp) (E : XK) : V → Hp → VK → Prop := fun x H Q => ∃ a dx fs, x = .ref a ∧ H a = some (.ins C dx fs) ∧ sp [x] H Q E
theorem un_negO (M : Meth X.K C "__neg__" (He.fAd X.K (cn, some "__neg__"))) (O : OkD X.prog X.w X.K X.mg X.base CX k (cn, some "__neg__") ps [] sp) (hr : Room j X.A) (hj : k ≤ j) (hx : Passes CX X E) : UnR X (unaryOp .USub) (rUO C sp E) := by
  obtain ⟨fd, ds, F, b, v⟩ := O.ex
  cases v
  intro pins s σ H x v Q I rx h
  obtain ⟨a, dx, fs, rfl, ha, hsp⟩ := h
  cases rx
  obtain ⟨mA, J, _⟩ := ins_get I.hok ha
  obtain ⟨od, J, _⟩ := J.look
  obtain ⟨mm, hF⟩ := I.fr
  exact PySem.W.ksp_neg hF I.ok.mod.kin J M.at_ M.fn (run_fn (vs := [V.ref a]) F (hr.mono hj) b .nil hx I (.cons rfl .nil) hsp)
/-- abs(o) -/
def rAbsO (C : Addr) (sp : Sp) : List V → Hp → VK → Prop := fun xs H Q => ∃ a dx fs, xs = [.ref a] ∧ H a = some (.ins C dx fs) ∧ sp xs H Q fun _ _ _ => False
theorem call_absO (M : Meth X.K C "__abs__" (He.fAd X.K (cn, some "__abs__"))) (O : OkD X.prog X.w X.K X.mg X.base CX0 k (cn, some "__abs__") ps [] sp) (hr : Room j X.A) (hj : k + 2 ≤ j) : CallR X (.builtin "abs") (rAbsO C sp) := by
  obtain ⟨fd, ds, F, b, v⟩ := O.ex
  cases v
  intro pins s σ H xs us Q I r h
  obtain ⟨a, dx, fs, rfl, ha, hsp⟩ := h
  obtain ⟨u, rfl, ru⟩ : ∃ u, us = [u] ∧ RelV (.ref a) u := by
    cases r with
    | cons p q => cases q; exact ⟨_, rfl, p⟩
  cases ru
  obtain ⟨mA, J, _⟩ := ins_get I.hok ha
  obtain ⟨od, J, _⟩ := J.look
  have hr2 : Room (k + 1) X.A.in1 := (hr.mono hj).in1
  have hr3 : Room k X.A.in1 := hr2.mono (by omega)
  have hl := F.len _ _ _ _ hsp
  have hb := b s [.ref a] I.kIn (by simpa using hl)
  simp only [List.append_nil] at hb
  refine PySem.Calls.call_function_entry PyProof.Rows.kind_abs PyProof.Rows.plain_abs PyProof.Rows.entry_abs (PyProof.Rows.args_abs _) ?_
  unfold PySem.Builtin.«abs»
  refine wpAny_bind (wpAny_pure ?_)
  refine wpAny_bind (m := callSpecial? (.ref a) (Str.ofString "__abs__")) (PySem.W.special_fn I.kIn J M.at_ (beq_iff_eq.mp M.fn) ?_)
  refine wpAny_call (codeAny_mono (F.run X.A.in1 X.stack s H ⟨[.ref a], []⟩ [.ref a] [.ref a] _ _ hr3 I.env0.in1 hb (.cons rfl .nil) hsp) fun r s' hq => ?_)
  cases r with
  | error e => exact hq.elim
  | ok fl =>
    cases fl with
    | ret w => exact wpAny_pure ⟨_, rfl, I.after hq⟩
    | next => exact False.elim hq
    | brk => exact False.elim hq
    | cont => exact False.elim hq
/-- comparisons -/
theorem cmp_oo {op : CmpOp} (hd : (cmpInfo op).2.1 = m) (hop : compareOp op = richCompare op) (M : Meth X.K C m (He.fAd X.K (cn, some m))) (O : OkD X.prog X.w X.K X.mg X.base CX k (cn, some m) ps [] sp) (hr : Room j X.A) (hj : k ≤ j) (hx : Passes CX X E) : OpR X (compareOp op) (rOO C sp E) := by
  obtain ⟨fd, ds, F, b, v⟩ := O.ex
  cases v
  intro pins s σ H x y v u Q I rx ry h
  obtain ⟨a, b', dx, dy, fs, gs, rfl, rfl, ha, hb, hsp⟩ := h
  cases rx
  cases ry
  obtain ⟨mA, J, _⟩ := ins_get I.hok ha
  obtain ⟨mB, J', _⟩ := ins_get I.hok hb
  obtain ⟨od, J, _⟩ := J.look
  obtain ⟨od', J', _⟩ := J'.look
  obtain ⟨mm, hF⟩ := I.fr
  rw [hop]
  exact PySem.W.cmp_K (tb := .ref C) hr.units0 hF I.ok.mod.kin J J'.type (by simp [PySem.W.notFirst]) (by rw [hd]; exact M.at_) M.fn (run_own (vs := [V.ref a, V.ref b']) F (hr.mono hj) b hx I (.cons rfl (.cons rfl .nil)) hsp)
theorem cmp_oi {op : CmpOp} (hd : (cmpInfo op).2.1 = m) (hop : compareOp op = richCompare op) (M : Meth X.K C m (He.fAd X.K (cn, some m))) (h5 : PySem.W.subIn X.K (.type "int") (.ref C) = some false)
    (O : OkD X.prog X.w X.K X.mg X.base CX k (cn, some m) ps [] sp) (hr : Room j X.A) (hj : k ≤ j) (hx : Passes CX X E) : OpR X (compareOp op) (rOI C sp E) := by
  obtain ⟨fd, ds, F, b, v⟩ := O.ex
  cases v
  intro pins s σ H x y v u Q I rx ry h
  obtain ⟨a, n, dx, fs, rfl, rfl, ha, hsp⟩ := h
  cases rx
  obtain ⟨t, rfl⟩ := ry
  obtain ⟨mA, J, _⟩ := ins_get I.hok ha
  obtain ⟨od, J, _⟩ := J.look
  obtain ⟨mm, hF⟩ := I.fr
  rw [hop]
  exact PySem.W.cmp_K (tb := .type "int") hr.units0 hF I.ok.mod.kin J (PySem.W.Looks.of_pure rfl) (by unfold PySem.W.notFirst; rw [h5]; simp) (by rw [hd]; exact M.at_) M.fn (run_own (vs := [V.ref a, V.int n]) F (hr.mono hj) b hx I (.cons rfl (.cons ⟨t, rfl⟩ .nil)) hsp)
theorem cmp_io {op : CmpOp} {id : String} {B : Builtin} (hd : (cmpInfo op).2.2 = m) (hop : compareOp op = richCompare op) (M : Meth X.K C m (He.fAd X.K (cn, some m))) (hm : PySem.W.mroIn X.K C (.type "int") = some false)
    (slot : Slot "int" (cmpInfo op).2.1 id) (entry : entryFor table id = some B) (ha : ∀ a b, argsOk id ⟨[a, b], []⟩) (hB : Declines B)
    (O : OkD X.prog X.w X.K X.mg X.base CX k (cn, some m) ps [] sp) (hr : Room j X.A) (hj : k ≤ j) (hx : Passes CX X E) : OpR X (compareOp op) (rIO C sp E) := by
  obtain ⟨fd, ds, F, b, v⟩ := O.ex
  cases v
  intro pins s σ H x y v u Q I rx ry h
  obtain ⟨n, b', dx, fs, rfl, rfl, hb, hsp⟩ := h
  obtain ⟨t, rfl⟩ := rx
  cases ry
  obtain ⟨mA, J, _⟩ := ins_get I.hok hb
  obtain ⟨od, J, _⟩ := J.look
  rw [hop]
  exact cmp_int_own hr.units0 I.kIn J rfl (by rw [hd]; exact M.at_) M.fn hm slot entry (ha _ _) hB (run_own (vs := [V.ref b', V.int n]) F (hr.mono hj) b hx I (.cons rfl (.cons ⟨t, rfl⟩ .nil)) hsp)
end
end Vf

set_option Elab.async false
set_option linter.all false
set_option maxRecDepth 100000
set_option maxHeartbeats 2000000
namespace Vf
open PySem PySem.Spec PyProof.Rows L2
section
variable {X : Cx} {C : Addr} {bmB : List Value} {B newId initId : String}
/-- X(), X an error of the text's own without an __init__ -/
theorem pmk_own0 {x : Str} {p pos : Pos} (F : ExcBaseFacts B newId initId bmB) (q : PySem.W.excIn X.K C bmB newId = true) (gC : X.mg x = some (.ref C)) (kC : PySem.W.keepIn X.K (.ref C) = true) (r : Raises X (.ref C)) (hg : Gl X x)
    (hdb : (x == ("__debug__" : Str)) = false := by decide) : PMk X (.Call (.Name x p) [] [] pos) (fun _ H Q => Q (.ref C) none H) := by
  intro pins s σ H Q I h
  refine wpAny_Call_Name_kw (ld_glob I hg gC ?_ hdb)
  refine PySem.W.callWith_K0 I.kIn kC ?_
  obtain ⟨_, _, _, _, _, _, _, _, _, _, _, _, _, _, _, _, _, hC, hN, hni, T⟩ := exc_obj I.kIn q
  show wpAny _ _ (call (.ref C) []) _ _ _
  exact wpAny_call_exc_subT F T hC hN hni (fun h' e hm => L2.mk_of I hm r h (I.hok.gone hm.new)) (Nat.zero_le _)
end
theorem c_raise0 {X : Cx} {x : Str} {p pos pos2 : Pos} {W : WX} (c : (He.Fa.exc x).ok X.K = true) (hm : X.mg x = some (.ref (He.ga X.K x))) (tk : Takes X W) (hc : X.calm = true := by rfl) (hg : Gl X x := by rfl) (hdb : (x == ("__debug__" : Str)) = false := by decide) :
    PS X (.Raise (some (.Call (.Name x p) [] [] pos)) none pos2) (fun _ σ H => W (.ref (He.ga X.K x)) none σ H) := by
  obtain ⟨h1, h2, h3, h4⟩ := He.exc_ok c
  exact ps_raise hc tk (pmk_own0 PySem.F.excBase_ValueError h1 hm h2 (raises_own h3 h4) hg hdb)
theorem passX {X : Cx} {E : XK} (tk : Takes X (fun cls d _ H => E cls d H)) : Passes (L2.CX X.prog X.w) X E := passes_call tk fun _ _ _ _ h => h
theorem opr_or {X : Cx} {f : Value → Value → Sem Value} {r1 r2 : R2} (h1 : OpR X f r1) (h2 : OpR X f r2) : OpR X f (fun x y H Q => r1 x y H Q ∨ r2 x y H Q) := fun pins s σ H x y v u Q I rx ry h => by
  rcases h with h | h
  · exact h1 pins s σ H x y v u Q I rx ry h
  · exact h2 pins s σ H x y v u Q I rx ry h
section
variable (K : PySem.W.Frag)
theorem int_add : PySem.W.findIn K (.type "int") (PySem.dunder "add") = some (some (.builtin "int.__add__")) := by kernel_rfl
theorem int_sub : PySem.W.findIn K (.type "int") (PySem.dunder "sub") = some (some (.builtin "int.__sub__")) := by kernel_rfl
theorem int_mul : PySem.W.findIn K (.type "int") (PySem.dunder "mul") = some (some (.builtin "int.__mul__")) := by kernel_rfl
theorem int_fdv : PySem.W.findIn K (.type "int") (PySem.dunder "floordiv") = some (some (.builtin "int.__floordiv__")) := by kernel_rfl
theorem int_radd : PySem.W.findIn K (.type "int") (dunderR "add") = some (some (.builtin "int.__radd__")) := by kernel_rfl
theorem int_rsub : PySem.W.findIn K (.type "int") (dunderR "sub") = some (some (.builtin "int.__rsub__")) := by kernel_rfl
theorem int_rmul : PySem.W.findIn K (.type "int") (dunderR "mul") = some (some (.builtin "int.__rmul__")) := by kernel_rfl
theorem int_rfdv : PySem.W.findIn K (.type "int") (dunderR "floordiv") = some (some (.builtin "int.__rfloordiv__")) := by kernel_rfl
end
end Vf

set_option Elab.async false
set_option linter.all false
set_option maxRecDepth 100000
set_option maxHeartbeats 2000000
namespace Vf
open PySem PySem.Spec PyProof.Rows L2
section
open PySem.W PySem.Calls
variable {prog : Program} {w : World} {A : Around} {E : Value → Shared → Prop} {s : Shared} {K : Frag} {x C f L : Addr} {h₀ : Heap} {m : Str → Option Value} {ox : Obj} {od : Option Obj}
/-- x, an instance of the text's own, is of no built-in type T -/
theorem inst_not {T : String} {Q : Bool → Shared → Prop} (X : K.In s.heap) (I : InstAt s.heap x ox C od) (hm : mroIn K C (.type T) = some false) (h : Q false s) : wpAny (model prog w) A (isInstance (.ref x) (.type T)) Q E s := by
  unfold isInstance
  exact wpAny_bind (I.type.here ((looks_mroIn X hm).here h))
theorem eq_no_none {Q : Fin → Shared → Prop} (h : Q (.done (.ret .notImplemented)) s) : wpAny (model prog w) A (PySem.Builtin.«NoneType.__eq__» ⟨[.none, .ref x], []⟩) Q E s := by
  unfold PySem.Builtin.«NoneType.__eq__»
  wp_walk
  exact h
theorem eq_no_int {n : Value} (hn : (∃ b, n = .bool b) ∨ ∃ i t, n = .int i t) (hd : ox.data = .plain) (hx : s.heap.get? x = some ox) {Q : Fin → Shared → Prop} (h : Q (.done (.ret .notImplemented)) s) : wpAny (model prog w) A (PySem.Builtin.«int.__eq__» ⟨[n, .ref x], []⟩) Q E s := by
  obtain ⟨hp, gg, d, tk, os⟩ := s
  obtain ⟨oc, odd, oda, osl⟩ := ox
  dsimp only at hd
  subst hd
  rcases hn with ⟨b, rfl⟩ | ⟨i, t, rfl⟩
  · wp_walk using AutoSeq1.wpAny_loadPart' hx
    exact h
  · wp_walk using AutoSeq1.wpAny_loadPart' hx
    exact h
theorem eq_no_str {z : Str} {t : Tok} (hd : ox.data = .plain) (hx : s.heap.get? x = some ox) {Q : Fin → Shared → Prop} (h : Q (.done (.ret .notImplemented)) s) : wpAny (model prog w) A (PySem.Builtin.«str.__eq__» ⟨[.str z t, .ref x], []⟩) Q E s := by
  obtain ⟨hp, gg, d, tk, os⟩ := s
  obtain ⟨oc, odd, oda, osl⟩ := ox
  dsimp only at hd
  subst hd
  wp_walk using AutoSeq1.wpAny_loadPart' hx
  exact h
theorem eq_no_tup {a : Addr} (X : K.In s.heap) (I : InstAt s.heap x ox C od) (hm : mroIn K C (.type "tuple") = some false) {Q : Fin → Shared → Prop} (h : Q (.done (.ret .notImplemented)) s) : wpAny (model prog w) A (PySem.Builtin.«tuple.__eq__» ⟨[.ref a, .ref x], []⟩) Q E s := by
  wp_walk using inst_not X I hm
  exact h
theorem eq_no_lst {a : Addr} (X : K.In s.heap) (I : InstAt s.heap x ox C od) (hm : mroIn K C (.type "list") = some false) {Q : Fin → Shared → Prop} (h : Q (.done (.ret .notImplemented)) s) : wpAny (model prog w) A (PySem.Builtin.«list.__eq__» ⟨[.ref a, .ref x], []⟩) Q E s := by
  wp_walk using inst_not X I hm
  exact h
theorem eq_no_dic {a : Addr} {oa : Obj} (ha : s.heap.get? a = some oa) (X : K.In s.heap) (I : InstAt s.heap x ox C od) (hm : mroIn K C (.type "dict") = some false) {Q : Fin → Shared → Prop} (h : Q (.done (.ret .notImplemented)) s) : wpAny (model prog w) A (PySem.Builtin.«dict.__eq__» ⟨[.ref a, .ref x], []⟩) Q E s := by
  wp_walk using inst_not X I hm
  exact h
/-- v == x: v's slot declines, x's own is asked -/
theorem eq_any_own {v : Value} {T id : String} {B : Builtin} {Q : Value → Shared → Prop} (hT : s.TypeIs v T) (hu : A.units < cLine) (X : K.In s.heap) (I : InstAt s.heap x ox C od)
    (hr : findIn K (.ref C) "__eq__" = some (some (.ref f))) (hf : isFn K (.ref f) = true) (hm : mroIn K C (.type T) = some false)
    (slot : Slot T (cmpInfo .Eq).2.1 id) (entry : entryFor table id = some B) (ha : argsOk id ⟨[v, .ref x], []⟩) (hB : ∀ Q : Fin → Shared → Prop, Q (.done (.ret .notImplemented)) s → wpAny (model prog w) A.in1 (B ⟨[v, .ref x], []⟩) Q E s)
    (h : wpAny (model prog w) A (call (.ref f) [.ref x, v]) (PySem.W.CmpBack Q) E s) : wpAny (model prog w) A (richCompare .Eq v (.ref x)) Q E s := by
  have one : wpAny (model prog w) A (tryCompare (.ref x) "__eq__" v) (fun r s' => ∃ z, r = some z ∧ Q z s') E s := by
    unfold tryCompare
    refine wpAny_bind (ifBound_K X I hr hf (wpAny_mono h (fun z s' hv => ?_) fun _ _ e => e))
    cases z <;> first | exact hv.elim | exact wpAny_pure ⟨_, rfl, hv⟩
  have two : wpAny (model prog w) A (tryCompare v (cmpInfo .Eq).2.1 (.ref x)) (fun r s' => r = none ∧ s' = s) E s :=
    wpAny_tryCompare_declines hT slot (wpAny_call_entry slot hT entry (hB _ ⟨_, rfl, rfl, rfl, rfl⟩) ha)
  have hne : (Value.type T != Value.ref C) = true := bne_iff_ne.mpr fun q => by cases q
  unfold richCompare
  simp only [hT.oneThing_none]
  refine wpAny_holding (wpAny_bind (wpAny_cRoomFor hu ?_))
  refine wpAny_bind (wpAny_typeOf hT (wpAny_bind (I.type.here ?_)))
  simp only [hne, if_true]
  refine wpAny_bind ((looks_mroIn X hm).here ?_)
  simp only [Bool.false_eq_true, if_false]
  refine wpAny_bind (wpAny_mono two (fun r s' z => ?_) fun _ _ e => e)
  obtain ⟨rfl, rfl⟩ := z
  simp only [Bool.not_false, if_true]
  refine wpAny_bind (wpAny_mono one (fun r s' z => ?_) fun _ _ e => e)
  obtain ⟨z, rfl, hq⟩ := z
  exact wpAny_pure hq
theorem sub_not {n : String} {l : List Value} (e : fastBuiltinMro n = some l) (h : ∀ a, l.contains (.ref a) = false) : subIn K (.type n) (.ref C) = some false := by
  show (fastBuiltinMro n).map (·.contains (.ref C)) = some false
  rw [e, Option.map_some, h]
end
theorem looks_ty {M : Model} {s : Shared} {u : Value} {n : String} (h : s.TypeIs u n) : PySem.W.Looks M s.heap (typeOf u) (.type n) := fun A Q E s' k q => by
  refine wpAny_typeOf (T := n) ?_ q
  cases u with
  | ref a =>
    obtain ⟨o, h1, h2⟩ := h
    exact ⟨o, k _ _ h1, h2⟩
  | _ => exact h
/-! ### odd values beside an own object -/
def oddK : List String := ["bool", "NoneType", "str", "tuple", "list", "dict"]
section
variable {X : Cx} {CX : CXT} {k j : Nat} {C : Addr} {cn m : Str} {ps : List Str} {sp : Sp} {E : XK}
/-- a built-in type none of our classes is over, nor they over it -/
theorem odd_is {pins : List (Addr × Obj)} {s : Shared} {σ : L2.St} {H : Hp} {x : V} {u : Value} (I : L2.Inv X pins σ H s) (o : Odd H x) (r : RelV x u) :
    ∃ n ∈ oddK, s.TypeIs u n := by
  cases o with
  | bl b => cases r; exact ⟨"bool", by simp [oddK], rfl⟩
  | non => cases r; exact ⟨"NoneType", by simp [oddK], rfl⟩
  | str z => obtain ⟨t, rfl⟩ := r; exact ⟨"str", by simp [oddK], rfl⟩
  | tup h =>
    cases r
    obtain ⟨_, _, _, o, h1, h2, _⟩ := (show ObjOk X.prog X.w H s.heap _ (.tup _) from I.hok _ _ h)
    exact ⟨"tuple", by simp [oddK], o, h1, h2⟩
  | lst h =>
    cases r
    obtain ⟨_, _, n, _, h1⟩ := (show ObjOk X.prog X.w H s.heap _ (.lst _) from I.hok _ _ h)
    exact ⟨"list", by simp [oddK], _, h1, rfl⟩
  | dic h =>
    cases r
    obtain ⟨_, _, vs, _, o, es, ep, h1, h2, _⟩ := (show ObjOk X.prog X.w H s.heap _ (.dK _) from I.hok _ _ h)
    exact ⟨"dict", by simp [oddK], o, h1, h2.1⟩
theorem odd_first {n : String} (h : n ∈ oddK) : PySem.W.subIn X.K (.type n) (.ref C) = some false := by
  simp only [oddK, List.mem_cons, List.not_mem_nil, or_false] at h
  rcases h with rfl | rfl | rfl | rfl | rfl | rfl
  · exact sub_not (l := [.type "bool", .type "int", .type "object"]) (by decide +kernel) fun a => by simp
  · exact sub_not (l := [.type "NoneType", .type "object"]) (by decide +kernel) fun a => by simp
  · exact sub_not (l := [.type "str", .type "object"]) (by decide +kernel) fun a => by simp
  · exact sub_not (l := [.type "tuple", .type "object"]) (by decide +kernel) fun a => by simp
  · exact sub_not (l := [.type "list", .type "object"]) (by decide +kernel) fun a => by simp
  · exact sub_not (l := [.type "dict", .type "object"]) (by decide +kernel) fun a => by simp
/-- a method of the text's own asked by the machine, somewhere below the running body -/
theorem run_ownA {A : Around} {f : Addr} {fd : FuncData} {pins : List (Addr × Obj)} {σ : L2.St} {H : Hp} {s : Shared} {Q : VK} {us : List Value} {vs : List V} (F : FnOk X.prog X.w X.K X.mg X.base CX k f fd ps sp) (sb : Sub X k A) (hb : L2.Binds X.K fd ps []) (hx : Passes CX X E)
    (I : L2.Inv X pins σ H s) (r : Vals vs us) (h : sp vs H Q E) : wpAny (model X.prog X.w) A (call (.ref f) us) (PySem.W.CmpBack (EP X pins σ Q)) X.xe s := by
  have e0 : Env0 X.prog X.w X.K X.mg X.base A X.stack s H := by
    have e := I.env0
    exact ⟨by rw [sb.fr]; exact e.frames, e.mod, e.bs, e.bsz, e.funs, e.frf, e.hok, e.bare⟩
  have hl := F.len _ _ _ _ h
  refine wpAny_call (codeAny_mono (F.run A X.stack s H ⟨us, []⟩ us vs _ E sb.room e0 (by
    have := hb s us I.kIn (by rw [List.append_nil, ← r.length, hl])
    simpa using this) r h) fun r s' hq => ?_)
  cases r with
  | error e => exact hx pins σ H s e s' I hq
  | ok fl =>
    cases fl with
    | ret w => exact back_of (I.after hq)
    | next => exact False.elim hq
    | brk => exact False.elim hq
    | cont => exact False.elim hq
/-- x == y, x odd, y of the class at C: its own == is asked -/
theorem rc_odd {A : Around} {pins : List (Addr × Obj)} {s : Shared} {σ : L2.St} {H : Hp} {x : V} {u : Value} {b dx : Addr} {fs : List (Str × V)} {Q : VK} (sb : Sub X k A) (M : Meth X.K C "__eq__" (He.fAd X.K (cn, some "__eq__")))
    (hm : ∀ n ∈ oddK, PySem.W.mroIn X.K C (.type n) = some false) (O : OkD X.prog X.w X.K X.mg X.base CX k (cn, some "__eq__") ps [] sp) (hx : Passes CX X E) (I : L2.Inv X pins σ H s) (o : Odd H x) (rx : RelV x u) (hb : H b = some (.ins C dx fs)) (h0 : sp [.ref b, x] H Q E) :
    wpAny (model X.prog X.w) A (richCompare .Eq u (.ref b)) (EP X pins σ Q) X.xe s := by
  obtain ⟨fd, ds, F, bi, v⟩ := O.ex
  cases v
  obtain ⟨mA, J, _⟩ := ins_get I.hok hb
  obtain ⟨od, J, _⟩ := J.look
  have go := run_ownA (vs := [V.ref b, x]) (us := [.ref b, u]) F sb bi hx I (.cons rfl (.cons rx .nil)) h0
  have hu := sb.room.units0
  cases o with
  | bl y =>
    cases rx
    exact eq_any_own (T := "bool") rfl hu I.kIn J M.at_ M.fn (hm _ (by simp [oddK])) PySem.F.slot_bool_eq PySem.F.entry_int_eq (PySem.F.args_int_eq_2 _ _) (fun Q q => eq_no_int (.inl ⟨_, rfl⟩) rfl J.at_ q) go
  | non =>
    cases rx
    exact eq_any_own (T := "NoneType") rfl hu I.kIn J M.at_ M.fn (hm _ (by simp [oddK])) PySem.F.slot_NoneType_eq PySem.F.entry_NoneType_eq (PySem.F.args_NoneType_eq_2 _ _) (fun Q q => eq_no_none q) go
  | str z =>
    obtain ⟨t, rfl⟩ := rx
    exact eq_any_own (T := "str") rfl hu I.kIn J M.at_ M.fn (hm _ (by simp [oddK])) PySem.F.slot_str_eq PySem.F.entry_str_eq (PySem.F.args_str_eq_2 _ _) (fun Q q => eq_no_str rfl J.at_ q) go
  | tup h =>
    cases rx
    obtain ⟨_, _, _, o, h1, h2, _⟩ := (show ObjOk X.prog X.w H s.heap _ (.tup _) from I.hok _ _ h)
    exact eq_any_own (T := "tuple") ⟨o, h1, h2⟩ hu I.kIn J M.at_ M.fn (hm _ (by simp [oddK])) PySem.F.slot_tuple_eq PySem.F.entry_tuple_eq (PySem.F.args_tuple_eq_2 _ _) (fun Q q => eq_no_tup I.kIn J (hm _ (by simp [oddK])) q) go
  | lst h =>
    cases rx
    obtain ⟨_, _, n, _, h1⟩ := (show ObjOk X.prog X.w H s.heap _ (.lst _) from I.hok _ _ h)
    exact eq_any_own (T := "list") ⟨_, h1, rfl⟩ hu I.kIn J M.at_ M.fn (hm _ (by simp [oddK])) PySem.F.slot_list_eq PySem.F.entry_list_eq (PySem.F.args_list_eq_2 _ _) (fun Q q => eq_no_lst I.kIn J (hm _ (by simp [oddK])) q) go
  | dic h =>
    cases rx
    obtain ⟨_, _, vs, _, o, es, ep, h1, h2, _⟩ := (show ObjOk X.prog X.w H s.heap _ (.dK _) from I.hok _ _ h)
    exact eq_any_own (T := "dict") ⟨o, h1, h2.1⟩ hu I.kIn J M.at_ M.fn (hm _ (by simp [oddK])) PySem.F.slot_dict_eq PySem.F.entry_dict_eq (PySem.F.args_dict_eq_2 _ _) (fun Q q => eq_no_dic h1 I.kIn J (hm _ (by simp [oddK])) q) go
/-- odd == o -/
def rDO (C : Addr) (sp : Sp) (E : XK) : R2 := fun x y H Q => ∃ b dx fs, Odd H x ∧ y = .ref b ∧ H b = some (.ins C dx fs) ∧ sp [y, x] H Q E
theorem eq_do (M : Meth X.K C "__eq__" (He.fAd X.K (cn, some "__eq__"))) (hm : ∀ n ∈ oddK, PySem.W.mroIn X.K C (.type n) = some false) (O : OkD X.prog X.w X.K X.mg X.base CX k (cn, some "__eq__") ps [] sp) (hr : Room j X.A) (hj : k ≤ j) (hx : Passes CX X E) : OpR X (compareOp .Eq) (rDO C sp E) := by
  intro pins s σ H x y v u Q I rx ry h
  obtain ⟨b, dx, fs, o, rfl, hb, hsp⟩ := h
  cases ry
  exact rc_odd ⟨hr.mono hj, rfl⟩ M hm O hx I o rx hb hsp
/-- o ? odd -/
def rOD (C : Addr) (sp : Sp) (E : XK) : R2 := fun x y H Q => ∃ a dx fs, x = .ref a ∧ H a = some (.ins C dx fs) ∧ Odd H y ∧ sp [x, y] H Q E
theorem cmp_od {op : CmpOp} (hd : (cmpInfo op).2.1 = m) (hop : compareOp op = richCompare op) (M : Meth X.K C m (He.fAd X.K (cn, some m))) (O : OkD X.prog X.w X.K X.mg X.base CX k (cn, some m) ps [] sp) (hr : Room j X.A) (hj : k ≤ j) (hx : Passes CX X E) : OpR X (compareOp op) (rOD C sp E) := by
  obtain ⟨fd, ds, F, b, v⟩ := O.ex
  cases v
  intro pins s σ H x y v u Q I rx ry h
  obtain ⟨a, dx, fs, rfl, ha, o, hsp⟩ := h
  cases rx
  obtain ⟨mA, J, _⟩ := ins_get I.hok ha
  obtain ⟨od, J, _⟩ := J.look
  obtain ⟨mm, hF⟩ := I.fr
  obtain ⟨n, hn, ht⟩ := odd_is I o ry
  rw [hop]
  exact PySem.W.cmp_K (tb := .type n) hr.units0 hF I.ok.mod.kin J (looks_ty ht) (by unfold PySem.W.notFirst; rw [odd_first hn]; simp) (by rw [hd]; exact M.at_) M.fn (run_own (vs := [V.ref a, y]) F (hr.mono hj) b hx I (.cons rfl (.cons ry .nil)) hsp)
/-! ### x in a list, where == is the text's own -/
/-- == inside a built-in's body: its answer; it only makes objects -/
abbrev Eqb := V → V → Hp → Bool → Prop
def EqB (X : Cx) (n : Nat) (D : Eqb) : Prop :=
  ∀ (A : Around) (pins : List (Addr × Obj)) (s : Shared) (σ : L2.St) (H : Hp) (x y : V) (u v : Value) (b : Bool), Sub X n A → L2.Inv X pins σ H s → RelV x u → RelV y v → D x y H b →
    wpAny (model X.prog X.w) A (eqBool u v) (fun r s' => r = b ∧ ∃ H', L2.Inv X pins σ H' s' ∧ Ext H H') X.xe s
theorem EqB.or {n : Nat} {D D' : Eqb} (h : EqB X n D) (h' : EqB X n D') : EqB X n (fun x y H b => D x y H b ∨ D' x y H b) := fun A pins s σ H x y u v b sb I rx ry d => by
  rcases d with d | d
  · exact h A pins s σ H x y u v b sb I rx ry d
  · exact h' A pins s σ H x y u v b sb I rx ry d
def DOO (C : Addr) (sp : Sp) (E : XK) : Eqb := fun x y H b => ∃ a c dx dy fs gs, x = .ref a ∧ y = .ref c ∧ H a = some (.ins C dx fs) ∧ H c = some (.ins C dy gs) ∧ (a = c → b = true) ∧ sp [x, y] H (fun v H' => v = .bl b ∧ Ext H H') E
def DDO (C : Addr) (sp : Sp) (E : XK) : Eqb := fun x y H b => ∃ c dy gs, Odd H x ∧ y = .ref c ∧ H c = some (.ins C dy gs) ∧ (x = y → b = true) ∧ sp [y, x] H (fun v H' => v = .bl b ∧ Ext H H') E
theorem eqB_of_rc {A : Around} {pins : List (Addr × Obj)} {s : Shared} {σ : L2.St} {H : Hp} {u v : Value} {b : Bool} (hs : (u == v) = true → b = true) (hf : ∀ i t, u ≠ .float i t) (I : L2.Inv X pins σ H s)
    (h : wpAny (model X.prog X.w) A (richCompare .Eq u v) (EP X pins σ (fun v H' => v = .bl b ∧ Ext H H')) X.xe s) : wpAny (model X.prog X.w) A (eqBool u v) (fun r s' => r = b ∧ ∃ H', L2.Inv X pins σ H' s' ∧ Ext H H') X.xe s := by
  unfold eqBool
  refine wpAny_holding ?_
  refine wpAny_ite_split (fun hab => ?_) (fun _ => ?_)
  · refine wpAny_bind (wpAny_rule ?_)
    exact wpAny_pure ⟨(hs hab).symm, H, I, Ext.rfl'⟩
  · have tail : wpAny (model X.prog X.w) A (richCompare .Eq u v >>= truthOfDropped) (fun r s' => r = b ∧ ∃ H', L2.Inv X pins σ H' s' ∧ Ext H H') X.xe s := by
      refine wpAny_bind (wpAny_mono h (fun z s' hz => ?_) fun _ _ x => x)
      obtain ⟨v', H', I', rz, e, ex⟩ := hz
      subst e
      cases rz
      exact wpAny_truthy_bool ⟨rfl, H', I', ex⟩
    cases u with
    | float i t => exact absurd rfl (hf i t)
    | _ => exact tail
theorem eqB_oo {n : Nat} (M : Meth X.K C "__eq__" (He.fAd X.K (cn, some "__eq__"))) (O : OkD X.prog X.w X.K X.mg X.base CX n (cn, some "__eq__") ps [] sp) (hx : Passes CX X E) : EqB X n (DOO C sp E) := by
  obtain ⟨fd, ds, F, bi, v⟩ := O.ex
  cases v
  intro A pins s σ H x y u v b sb I rx ry d
  obtain ⟨a, c, dx, dy, fs, gs, rfl, rfl, ha, hc, he, hsp⟩ := d
  cases rx
  cases ry
  obtain ⟨mA, J, _⟩ := ins_get I.hok ha
  obtain ⟨mB, J', _⟩ := ins_get I.hok hc
  obtain ⟨od, J, _⟩ := J.look
  obtain ⟨od', J', _⟩ := J'.look
  obtain ⟨mm, hF⟩ := I.fr
  refine eqB_of_rc (fun h => he (by have := eq_of_beq h; injection this)) (fun _ _ z => nomatch z) I ?_
  exact PySem.W.cmp_K (op := .Eq) (tb := .ref C) sb.room.units0 hF I.ok.mod.kin J J'.type (by simp [PySem.W.notFirst]) M.at_ M.fn (run_ownA (vs := [V.ref a, V.ref c]) F sb bi hx I (.cons rfl (.cons rfl .nil)) hsp)
theorem eqB_do {n : Nat} (M : Meth X.K C "__eq__" (He.fAd X.K (cn, some "__eq__"))) (hm : ∀ n ∈ oddK, PySem.W.mroIn X.K C (.type n) = some false) (O : OkD X.prog X.w X.K X.mg X.base CX n (cn, some "__eq__") ps [] sp) (hx : Passes CX X E) : EqB X n (DDO C sp E) := by
  intro A pins s σ H x y u v b sb I rx ry d
  obtain ⟨c, dy, gs, o, rfl, hc, he, hsp⟩ := d
  cases ry
  refine eqB_of_rc (fun h => he ?_) (fun i t z => ?_) I (rc_odd sb M hm O hx I o rx hc hsp)
  · have := eq_of_beq h
    subst this
    cases x with
    | ref a => cases rx; rfl
    | int i => obtain ⟨t, h⟩ := rx; cases h
    | str i => obtain ⟨t, h⟩ := rx; cases h
    | byt i => obtain ⟨t, h⟩ := rx; cases h
    | flt i => obtain ⟨t, h⟩ := rx; cases h
    | _ => cases rx
  · subst z
    cases o with
    | bl => cases rx
    | non => cases rx
    | str => obtain ⟨t, h⟩ := rx; cases h
    | tup => cases rx
    | lst => cases rx
    | dic => cases rx
/-- the loop of list.__contains__; at each turn the list is read anew -/
theorem in_loop {P : Program} {w : World} {A : Around} {R : Result → Shared → Prop} {l : Addr} {N : Nat} {x : Value} (J : Shared → Prop) (e : Nat → Bool)
    (hl : ∀ i s, J s → ∃ (its : List Value) (n : Nat) (dd : Option Addr) (sl : Array (Option Value)), s.heap.get? l = some { cls := .type "list", dict := dd, data := .seq its.toArray n, slots := sl } ∧ its.length = N ∧ ∀ h : i < its.length, wpAny (model P w) A.in1 (eqBool its[i] x) (fun r s' => r = e i ∧ J s') (fun e s' => R (.error e) s') s) (k : Nat) :
    ∀ i : Nat, N - i = k → i ≤ N → ∀ s, J s → (∀ s', J s' → R (.ok (.ret (.bool ((List.range' i k).any e)))) s') →
      wpAny (model P w) A.in1 (Builtin.«list.__contains__.loop» ⟨[.ref l, x, rawInt i], []⟩) (GQ.FinOf P w A R) (fun e s' => R (.error e) s') s := by
  induction k with
  | zero =>
    intro i hk hi s h fin
    obtain ⟨items, n, dd, sl, ho, hn, _⟩ := hl i s h
    have q := fin s h
    obtain ⟨hp, g, d, tk, os⟩ := s
    wp_walk using AutoSeq1.wpAny_loadPart' ho
    have hi : items.toArray[((i : Nat) : Int).toNat]? = none := by simp; omega
    rw [hi]
    wp_walk
    exact q
  | succ k ih =>
    intro i hk hi s h fin
    obtain ⟨items, n, dd, sl, ho, hn, turn⟩ := hl i s h
    have hlt : i < items.length := by omega
    have t := turn hlt
    obtain ⟨hp, g, d, tk, os⟩ := s
    wp_walk using AutoSeq1.wpAny_loadPart' ho
    have hi : items.toArray[((i : Nat) : Int).toNat]? = some items[i] := by simp [hlt]
    rw [hi]
    refine wpAny_bind (wpAny_mono t (fun r s2 q => ?_) fun _ _ z => z)
    obtain ⟨rfl, h2⟩ := q
    rw [List.range'_succ, List.any_cons] at fin
    cases hb : e i with
    | true =>
      rw [hb] at fin
      have q := fin s2 h2
      obtain ⟨hp2, g2, d2, tk2, os2⟩ := s2
      wp_walk
      exact q
    | false =>
      rw [hb] at fin
      have hc : ((i : Int) + 1) = ((i + 1 : Nat) : Int) := by push_cast; rfl
      have go := ih (i + 1) (by omega) (by omega) s2 h2 (fun s' h' => by simpa using fin s' h')
      obtain ⟨hp2, g2, d2, tk2, os2⟩ := s2
      wp_walk
      rw [hc]
      exact ⟨plainId_quiet MeetsSeq.plain_contains_loop _, codeAny_builtin MeetsSeq.entry_contains_loop (by
        rw [Around.under_plainId MeetsSeq.plain_contains_loop _]
        exact go)⟩
/-- x in the list at y: item by item D says how they compare -/
def rInB (K : PySem.W.Frag) (neg : Bool) (D : Eqb) : R2 := fun x y H Q => ∃ (p : Addr) (xs : List V) (bs : List Bool), y = .ref p ∧ SqL K H p xs ∧ Paired (fun z b => ∀ H', Ext H H' → D z x H' b) xs bs ∧ ∀ H', Ext H H' → Q (.bl (if neg then !bs.any id else bs.any id)) H'
theorem any_range (bs : List Bool) : (List.range' 0 bs.length).any (fun i => bs.getD i false) = bs.any id := by
  rw [← List.range_eq_range']
  rw [Bool.eq_iff_iff, List.any_eq_true, List.any_eq_true]
  constructor
  · rintro ⟨i, hi, e⟩
    have h := List.mem_range.mp hi
    refine ⟨bs[i], List.getElem_mem h, ?_⟩
    simpa [List.getD_eq_getElem?_getD, List.getElem?_eq_getElem h] using e
  · rintro ⟨b, hb, e⟩
    obtain ⟨i, h, rfl⟩ := List.mem_iff_getElem.mp hb
    exact ⟨i, List.mem_range.mpr h, by simpa [List.getD_eq_getElem?_getD, List.getElem?_eq_getElem h] using e⟩
theorem paired_get {α β : Type} {R : α → β → Prop} : ∀ {xs : List α} {bs : List β}, Paired R xs bs → ∀ i (h : i < xs.length), ∃ b, bs[i]? = some b ∧ R xs[i] b
  | _, _, .nil, i, h => absurd h (Nat.not_lt_zero _)
  | _ :: _, _ :: _, .cons r p, 0, _ => ⟨_, rfl, r⟩
  | _ :: _, _ :: _, .cons r p, i + 1, h => paired_get p i (by simpa using h)
theorem paired_len {α β : Type} {R : α → β → Prop} : ∀ {xs : List α} {bs : List β}, Paired R xs bs → xs.length = bs.length
  | _, _, .nil => rfl
  | _, _, .cons _ p => congrArg (· + 1) (paired_len p)
theorem in_body {n : Nat} {D : Eqb} {neg : Bool} (h : EqB X n D) (hr : Room (n + 1) X.A) {pins : List (Addr × Obj)} {s : Shared} {σ : L2.St} {H : Hp} {x y : V} {u v : Value} {Q : VK} (I : L2.Inv X pins σ H s) (rx : RelV x u) (ry : RelV y v) (hq : rInB X.K neg D x y H Q) :
    wpAny (model X.prog X.w) X.A (contains v u) (fun r s' => EP X pins σ Q (.bool (if neg then !r else r)) s') X.xe s := by
  obtain ⟨p, xs, bs, rfl, hS, pr, q⟩ := hq
  cases ry
  obtain ⟨its, r, pl, hz⟩ := I.list hS
  have hT : s.TypeIs (.ref p) "list" := by
    obtain ⟨⟨cls, dd, data, sl⟩, n', ho, hc, _⟩ := id pl
    exact ⟨_, ho, hc⟩
  have J0 : (fun s' => ∃ H', L2.Inv X pins σ H' s' ∧ Ext H H') s := ⟨H, I, Ext.rfl'⟩
  refine wpAny_contains_slot hT PySem.F.slot_list_contains ?_
  refine GQ.call_here PySem.F.slot_list_contains hT PySem.F.entry_list_contains (PySem.F.args_list_contains_2 _ _) ?_
  have lp := in_loop (P := X.prog) (w := X.w) (A := X.A) (R := wants (fun r s' => wpAny (model X.prog X.w) X.A (truthy r) (fun r s' => EP X pins σ Q (Value.bool (if neg = true then !r else r)) s') X.xe s') X.xe) (l := p) (N := xs.length) (x := u) (fun s' => ∃ H', L2.Inv X pins σ H' s' ∧ Ext H H') (fun i => bs.getD i false) ?hl bs.length 0 (by rw [paired_len pr]; rfl) (Nat.zero_le _) s J0 ?fin
  case hl =>
    rintro i s' ⟨H', I', e⟩
    obtain ⟨its', r', pl', _⟩ := I'.list (SqL.ext hS e)
    obtain ⟨o, n', ho, hc, hd, hs⟩ := pl'
    obtain ⟨cls, dd, data, sl⟩ := o
    dsimp only at hc hd hs
    refine ⟨its', n', dd, sl, by first | (rw [ho, hc, hs]) | (rw [ho]; subst hc; subst hs; rfl), r'.length.symm, fun hi => ?_⟩
    have hx : i < xs.length := by rw [r'.length]; exact hi
    obtain ⟨z, hz', rz⟩ := r'.get (List.getElem?_eq_getElem hx)
    rw [List.getElem?_eq_getElem hi] at hz'
    obtain ⟨b, hb, hd'⟩ := paired_get pr i hx
    have eb : bs.getD i false = b := by simp [List.getD_eq_getElem?_getD, hb]
    rw [Option.some.inj hz', eb]
    refine wpAny_mono (h X.A.in1 pins s' σ H' _ x _ u b ⟨hr.in1, rfl⟩ I' rz rx (hd' _ e)) (fun r2 s2 q2 => ?_) fun _ _ z => z
    obtain ⟨h2, H2, I2, e2⟩ := q2
    exact ⟨h2, H2, I2, e.trans e2⟩
  case fin =>
    rintro s' ⟨H', I', e⟩
    rw [any_range]
    exact wpAny_truthy_bool ⟨.bl _, H', I', rfl, q H' e⟩
  obtain ⟨hp, g, d, tk, os⟩ := s
  wp_walk
  exact ⟨plainId_quiet MeetsSeq.plain_contains_loop _, codeAny_builtin MeetsSeq.entry_contains_loop (by
    rw [Around.under_plainId MeetsSeq.plain_contains_loop _]
    exact lp)⟩
theorem op_inB {n : Nat} {D : Eqb} (h : EqB X n D) (hr : Room (n + 1) X.A) : OpR X (compareOp .In) (rInB X.K false D) := fun pins s σ H x y v u Q I rx ry hq => by
  show wpAny (model X.prog X.w) X.A (do return Value.bool (← contains u v)) (EP X pins σ Q) X.xe s
  exact wpAny_bind (wpAny_mono (in_body h hr I rx ry hq) (fun _ _ z => wpAny_pure z) fun _ _ z => z)
theorem op_notInB {n : Nat} {D : Eqb} (h : EqB X n D) (hr : Room (n + 1) X.A) : OpR X (compareOp .NotIn) (rInB X.K true D) := fun pins s σ H x y v u Q I rx ry hq => by
  show wpAny (model X.prog X.w) X.A (do return Value.bool (!(← contains u v))) (EP X pins σ Q) X.xe s
  exact wpAny_bind (wpAny_mono (in_body h hr I rx ry hq) (fun _ _ z => wpAny_pure z) fun _ _ z => z)
end
end Vf

set_option Elab.async false
set_option linter.all false
set_option maxRecDepth 100000
set_option maxHeartbeats 2000000
namespace K4
open PySem PySem.Spec PyProof.Rows L2 Vf
def top (i : Nat) : Stmt := PySem.Challenge.pw_seenshares_k04_whole_shares_are_exact.main.body.getD i (.Pass ⟨0, 0, 0, 0⟩)
abbrev OkF (P : Program) (w : World) (K : PySem.W.Frag) (mg : Str → Option Value) (base : Heap) (CX : CXT) (k : Nat) (x : Str) (ps : List Str) (sp : Sp) : Prop := OkD P w K mg base CX k (x, none) ps [] sp
abbrev OkM (P : Program) (w : World) (K : PySem.W.Frag) (mg : Str → Option Value) (base : Heap) (CX : CXT) (k : Nat) (m : Str) (ps : List Str) (sp : Sp) : Prop := OkD P w K mg base CX k ("Share", some m) ps [] sp
abbrev FnD (K : PySem.W.Frag) (p : Pl) (x q : Str) (st : Stmt) (fd : FuncData) : Prop := FunD K x q (defArgs st) (defBody st) (defScope st) [] [] (He.fAd K p) fd
abbrev CS (K : PySem.W.Frag) : Addr := He.ga K "Share"
abbrev CB (K : PySem.W.Frag) : Addr := He.ga K "BadShare"
abbrev CN (K : PySem.W.Frag) : Addr := He.ga K "NoShare"
structure STxt (K : PySem.W.Frag) (mg : Str → Option Value) : Prop where
  z_int : mg "int" = none
  z_bool : mg "bool" = none
  z_abs : mg "abs" = none
  z_isinstance : mg "isinstance" = none
  gcd : mg "gcd" = some (.builtin "math.gcd")
  g_is_integer : mg "is_integer" = some (.ref (He.ga K "is_integer"))
  g_is_number : mg "is_number" = some (.ref (He.ga K "is_number"))
  g_parts : mg "parts" = some (.ref (He.ga K "parts"))
  g_Share : mg "Share" = some (.ref (He.ga K "Share"))
  g_NoShare : mg "NoShare" = some (.ref (He.ga K "NoShare"))
  g_BadShare : mg "BadShare" = some (.ref (He.ga K "BadShare"))
  c_Share : Cls K (He.ga K "Share")
  m_Share : Mk K (He.ga K "Share") (He.fAd K ("Share", some "__init__"))
  nT : NoAttr K (He.ga K "Share") "top"
  nB : NoAttr K (He.ga K "Share") "bottom"
  x_BadShare : ExI K "BadShare" "part"
  e_NoShare : (He.Fa.exc "NoShare").ok K = true
  te : PySem.W.exmOne K (.ref (He.ga K "NoShare")) (.ref (He.ga K "NoShare")) = some true
  hn : PySem.W.specialIn K (.builtin "object.__class__") "__get__" = some (some (.builtin "getset_descriptor.__get__"))
  ht : PySem.W.takesIn K (.builtin "object.__class__") = some true
  ha : PySem.W.findIn K (.ref (He.ga K "Share")) "__class__" = some (some (.builtin "object.__class__"))
  hm : PySem.W.mroIn K (He.ga K "Share") (.type "object") = some true
  hi : PySem.W.mroIn K (He.ga K "Share") (.type "int") = some false
  hc : PySem.W.selfFirst K (He.ga K "Share") = true
  hs : PySem.W.subIn K (.type "int") (.ref (He.ga K "Share")) = some false
  k1 : PySem.W.kitOne K (.ref (He.ga K "Share")) (.ref (He.ga K "Share")) = some true
  kz : ∀ n ∈ (["int", "bool", "NoneType", "str", "tuple", "list", "dict"] : List String), PySem.W.kitOne K (.type n) (.ref (He.ga K "Share")) = some false
/-! ### a share's fields -/
theorem tb_ : ¬ (("top" : Str) = "bottom") := by decide +kernel
theorem bt_ : ¬ (("bottom" : Str) = "top") := by decide +kernel
def shf (a b : Int) : List (Str × V) := putF "bottom" (.int b) (putF "top" (.int a) [])
theorem shf_top (a b : Int) : (shf a b).lookup ("top" : Str) = some (.int a) := by
  unfold shf
  rw [lookup_putF, if_neg tb_, lookup_putF, if_pos rfl]
theorem shf_bottom (a b : Int) : (shf a b).lookup ("bottom" : Str) = some (.int b) := by
  unfold shf
  rw [lookup_putF, if_pos rfl]
theorem shf_no (a b : Int) {m : Str} (h1 : ¬ m = "top") (h2 : ¬ m = "bottom") : (shf a b).lookup m = none := by
  unfold shf
  rw [lookup_putF, if_neg h2, lookup_putF, if_neg h1]
  rfl
/-- at p a share a over b -/
def Sh (C : Addr) (H : Hp) (p : Addr) (a b : Int) : Prop := ∃ dx, H p = some (.ins C dx (shf a b))
theorem Sh.ext {C : Addr} {H H' : Hp} {p : Addr} {a b : Int} (h : Sh C H p a b) (s : Same H H') : Sh C H' p a b := by
  obtain ⟨dx, e⟩ := h
  exact ⟨dx, s _ _ e⟩
/-- y is c over d, a share or an int -/
def Nm (C : Addr) (H : Hp) (y : V) (c d : Int) : Prop := (∃ p, y = .ref p ∧ Sh C H p c d) ∨ (y = .int c ∧ d = 1)
theorem Nm.ext {C : Addr} {H H' : Hp} {y : V} {c d : Int} (h : Nm C H y c d) (s : Same H H') : Nm C H' y c d := by
  rcases h with ⟨p, e, h⟩ | h
  · exact .inl ⟨p, e, h.ext s⟩
  · exact .inr h
theorem same_new {H : Hp} {p : Addr} {o : HO} (h : H p = none) : Same H (upd H p o) := fun b u e => by
  rw [upd_ne (ne_of_none e h)]
  exact e
theorem same_make {H : Hp} {x dx : Addr} {o1 o2 : HO} (nx : H x = none) (ndx : H dx = none) : Same H (upd (upd H dx o1) x o2) := fun b o e => by
  rw [upd_ne (ne_of_none e nx), upd_ne (ne_of_none e ndx)]
  exact e
theorem same_make2 {H : Hp} {x dx : Addr} {o1 o2 o3 : HO} (nx : H x = none) (ndx : H dx = none) : Same H (upd (upd (upd H dx o1) x o2) x o3) := by
  rw [upd_upd]
  exact same_make nx ndx
section
variable {P : Program} {w : World} {K : PySem.W.Frag} {mg : Str → Option Value} {base : Heap}
theorem okd {CX : CXT} {k : Nat} {p : Pl} {x q : Str} {st : Stmt} {fd : FuncData} {ps : List Str} {sp : Sp} (F : FnD K p x q st fd) (ok : FnOk P w K mg base CX k (He.fAd K p) fd ps sp)
    (h : ∀ (kV doc pm : Value) (an : Option Addr) (cdv ct : Value) (us : List Value), us.length = ps.length → bindArgs (PySem.W.fnOf x q (defArgs st) (defBody st) (defScope st) .none kV doc pm an cdv ct) ⟨us, []⟩ = pure (ps.zip us)) : OkD P w K mg base CX k p ps [] sp :=
  ⟨⟨fd, [], ok, FunD.bindsN F h, .nil⟩, F.kp⟩
abbrev s_is_integer : Stmt := top 6
theorem sc_is_integer : FnScope ["x"] ["x"] (defScope s_is_integer) := ⟨rfl, rfl, rfl, by decide +kernel, rfl, by decide +kernel, by decide +kernel⟩
-- slots: 0 x
theorem ok_is_integer {fd : FuncData} (F : FnD K ("is_integer", none) "is_integer" "is_integer" s_is_integer fd) (T : STxt K mg) : OkF P w K mg base CX0 1 "is_integer" ["x"] spIsInt := by
  refine okd F (F.ok sc_is_integer (fun vs H Q E h => ?_) fun cdv A outer s H vs Q E hr h => ⟨t_isint K, PSs.nox ?_, run_isint h⟩) fun _ _ _ _ _ _ us hl => match us, hl with | [_], _ => rfl
  · obtain ⟨x, rfl, _⟩ := h
    rfl
  · exact (pss_one (ps_ret (pe_and (pe_callB call_isi (by rfl) T.z_isinstance (by decide +kernel) (pa_cons (pv 0) (pa_cons (pe_ty (n := "int") T.z_int (by decide +kernel)) pa_nil))) (pe_one (pe_not (pe_callB call_isi (by rfl) T.z_isinstance (by decide +kernel) (pa_cons (pv 0) (pa_cons (pe_ty (n := "bool") T.z_bool (by decide +kernel)) pa_nil))))))))
abbrev s_BadShare_init : Stmt := inClass (top 3) 0
theorem sc_BadShare_init : FnScope ["self", "part"] ["self", "part"] (defScope s_BadShare_init) := ⟨rfl, rfl, rfl, by decide +kernel, rfl, by decide +kernel, by decide +kernel⟩
-- slots: 0 self, 1 part
theorem ok_BadShare_init {fd : FuncData} (F : FnD K ("BadShare", some "__init__") "__init__" "BadShare.__init__" s_BadShare_init fd) : OkD P w K mg base CX0 1 ("BadShare", some "__init__") ["self", "part"] [] (spExI K (CB K) "part") := by
  refine okd F (F.ok sc_BadShare_init (fun vs H Q E h => ?_) fun cdv A outer s H vs Q E hr h => ⟨tOst K "part" (tVar 0) (tVar 1), PSs.nox ?_, run_exI h⟩) fun _ _ _ _ _ _ us hl => match us, hl with | [_, _], _ => rfl
  · obtain ⟨a, v, rfl, _⟩ := h
    rfl
  · exact pss_one (ps_ost (pv 0) (pv 1))
abbrev s_Share_init : Stmt := inClass (top 8) 0
theorem sc_Share_init : FnScope ["self", "top", "bottom", "common"] ["self", "top", "bottom"] (defScope s_Share_init) := ⟨rfl, rfl, rfl, by decide +kernel, rfl, by decide +kernel, by decide +kernel⟩
-- slots: 0 self, 1 top, 2 bottom, 3 common
def spShI (K : PySem.W.Frag) : Sp := fun vs H Q E => ∃ (p dx : Addr) (x y : V), vs = [.ref p, x, y] ∧ H p = some (.ins (CS K) dx []) ∧
  ((∃ t b : Int, x = .int t ∧ y = .int b ∧ b ≠ 0 ∧ Bit 4000 b ∧ Q .non (upd H p (.ins (CS K) dx (shf (nT t b) (nB t b))))) ∨
   (Odd H x ∧ ∀ d, H d = none → E (.ref (CB K)) (some d) (upd H d (.xd [("part", .str "top")]))) ∨
   (∃ t : Int, x = .int t ∧ (Odd H y ∨ y = .int 0) ∧ ∀ d, H d = none → E (.ref (CB K)) (some d) (upd H d (.xd [("part", .str "bottom")]))))
theorem ok_Share_init {fd : FuncData} (F : FunD K "__init__" "Share.__init__" (defArgs s_Share_init) (defBody s_Share_init) (defScope s_Share_init) [.int 1] [] (He.fAd K ("Share", some "__init__")) fd) (T : STxt K mg)
    (O_is_integer : OkF P w K mg base CX0 1 "is_integer" ["x"] spIsInt) (O_BadShare_init : OkD P w K mg base CX0 1 ("BadShare", some "__init__") ["self", "part"] [] (spExI K (CB K) "part")) :
    FnOk P w K mg base (L2.CX P w) 4 (He.fAd K ("Share", some "__init__")) fd ["self", "top", "bottom"] (spShI K) := by
  refine F.ok sc_Share_init (fun vs H Q E h => ?_) fun cdv A outer s H vs Q E hr h => ?_
  · obtain ⟨p, dx, x, y, rfl, _⟩ := h
    rfl
  · obtain ⟨p, dx, x, y, rfl, hp, h⟩ := h
    refine ⟨_, (pss_cons (ps_if (pt_not (pt_val (c_fn O_is_integer hr (by decide) T.g_is_integer pass0 (pa_cons (pv 1) pa_nil)))) (pss_one (c_raise T.x_BadShare O_BadShare_init hr (by decide) T.g_BadShare (takes_of rfl rfl rfl rfl) (pa_cons pe_str pa_nil)))
  pss_nil)
  (pss_cons (ps_if (PW.pt (pw_or (pt_not (pt_val (c_fn O_is_integer hr (by decide) T.g_is_integer pass0 (pa_cons (pv 2) pa_nil)))) (pw_or1 (pt_cmpR op_eq (pv 2) pe_int (nomark _))))) (pss_one (c_raise T.x_BadShare O_BadShare_init hr (by decide) T.g_BadShare (takes_of rfl rfl rfl rfl) (pa_cons pe_str pa_nil)))
  pss_nil)
  (pss_cons (ps_set (i := 3) sc_Share_init.nd rfl (Or.inl rfl) (pe_callBfun cr_gcd (by rfl) T.gcd (pa_cons (pv 1) (pa_cons (pv 2) pa_nil))))
  (C8.pss_cut (ps_if (pt_cmpR op_lt (pv 2) pe_int (nomark _)) (pss_one (ps_set (i := 3) sc_Share_init.nd rfl (Or.inl rfl) (pe_un un_neg (pv 3))))
  pss_nil)
  (pss_cons (ps_fld (pv 0) (pe_op op_fdivG (pv 1) (pv 3)) rfl)
  (pss_one (ps_fld (pv 0) (pe_op op_fdivG (pv 2) (pv 3)) rfl))))))), ?_⟩
    rcases h with ⟨t, b, rfl, rfl, hb, bb, q⟩ | ⟨o, k⟩ | ⟨t, rfl, o, k⟩
    · refine ⟨_, rfl, _, rfl, .inl ⟨⟨t, rfl⟩, true, rfl, iteF ?_⟩⟩
      refine ⟨_, rfl, _, rfl, .inl ⟨⟨b, rfl⟩, true, rfl, iteF ⟨_, rfl, rfl, _, rfl, ?_⟩⟩⟩
      rw [decide_eq_false (show ¬ (V.int b = V.int 0) from fun e => hb (V.int.inj e))]
      refine iteF ⟨_, rfl, _, rfl, t, b, rfl, ?_⟩
      refine ⟨fun σ' H' => H' = H ∧ σ' = [some (.ref p), some (.int t), some (.int b), some (.int (nC t b))], ?_, ?_⟩
      · refine ⟨_, rfl, b, 0, rfl, rfl, _, rfl, ite2 (fun h => ?_) fun h => ?_⟩
        · refine ⟨_, rfl, _, rfl, rfl, ?_⟩
          have e : nC t b = -(nG t b) := if_pos (of_decide_eq_true h)
          rw [e]
          rfl
        · refine ⟨rfl, ?_⟩
          have e : nC t b = nG t b := if_neg fun z => h (decide_eq_true z)
          rw [e]
          rfl
      rintro σ' H' ⟨rfl, rfl⟩
      have hc := nC_ne (t := t) hb
      have hl : (nC t b).natAbs.log2 < 9000 := by
        refine Bit.log (n := 4000) (Nat.lt_of_le_of_lt ?_ bb) (by decide) (by decide)
        rw [nC_abs]
        exact Nat.gcd_le_right _ (by omega)
      refine ⟨_, rfl, _, rfl, t, _, rfl, rfl, ⟨hc, hl⟩, _, rfl, p, _, dx, [], rfl, hp, T.c_Share, T.nT, (by show 0 < 1000; decide), ?_⟩
      refine ⟨_, rfl, _, rfl, b, _, rfl, rfl, ⟨hc, hl⟩, _, rfl, p, _, dx, _, rfl, upd_same, T.c_Share, T.nB, (by show 1 < 1000; decide), ?_⟩
      rw [upd_upd]
      exact q
    · refine ⟨_, rfl, _, rfl, .inr ⟨o, false, rfl, iteT ⟨_, rfl, fun d hd => k d hd⟩⟩⟩
    · refine ⟨_, rfl, _, rfl, .inl ⟨⟨t, rfl⟩, true, rfl, iteF ?_⟩⟩
      rcases o with o | rfl
      · exact ⟨_, rfl, _, rfl, .inr ⟨o, false, rfl, iteT (iteT ⟨_, rfl, fun d hd => k d hd⟩)⟩⟩
      · refine ⟨_, rfl, _, rfl, .inl ⟨⟨0, rfl⟩, true, rfl, iteF ⟨_, rfl, rfl, _, rfl, ?_⟩⟩⟩
        rw [decide_eq_true (rfl : V.int 0 = V.int 0)]
        exact iteT ⟨_, rfl, fun d hd => k d hd⟩
theorem O_Share2 {fd : FuncData} (F : FunD K "__init__" "Share.__init__" (defArgs s_Share_init) (defBody s_Share_init) (defScope s_Share_init) [.int 1] [] (He.fAd K ("Share", some "__init__")) fd) (G : FnOk P w K mg base (L2.CX P w) 4 (He.fAd K ("Share", some "__init__")) fd ["self", "top", "bottom"] (spShI K)) :
    OkD P w K mg base (L2.CX P w) 4 ("Share", some "__init__") ["self", "top", "bottom"] [] (spShI K) := by
  obtain ⟨ds, v, b⟩ := F.binds1 (ps := ["self", "top", "bottom"]) 3 1 (by decide) rfl fun T kV doc pm an cdv ct us its h1 h2 => match us, its, h1, h2 with | [_, _, _], [_], _, _ => ⟨_, rfl, rfl⟩
  exact ⟨⟨fd, ds, G, b, v⟩, F.kp⟩
theorem O_Share1 {fd : FuncData} (F : FunD K "__init__" "Share.__init__" (defArgs s_Share_init) (defBody s_Share_init) (defScope s_Share_init) [.int 1] [] (He.fAd K ("Share", some "__init__")) fd) (G : FnOk P w K mg base (L2.CX P w) 4 (He.fAd K ("Share", some "__init__")) fd ["self", "top", "bottom"] (spShI K)) :
    OkD P w K mg base (L2.CX P w) 4 ("Share", some "__init__") ["self", "top", "bottom"] [.int 1] (spShI K) := by
  obtain ⟨ds, v, b⟩ := F.binds1 (ps := ["self", "top", "bottom"]) 2 0 (by decide) rfl fun T kV doc pm an cdv ct us its h1 h2 => match us, its, h1, h2 with | [_, _], [_], _, _ => ⟨_, rfl, rfl⟩
  exact ⟨⟨fd, ds, G, b, v⟩, F.kp⟩
abbrev s_Share_floor : Stmt := inClass (top 8) 19
theorem sc_Share_floor : FnScope ["self"] ["self"] (defScope s_Share_floor) := ⟨rfl, rfl, rfl, by decide +kernel, rfl, by decide +kernel, by decide +kernel⟩
-- slots: 0 self
def spFloor (C : Addr) : Sp := fun vs H Q _ => ∃ (p : Addr) (a b : Int), vs = [.ref p] ∧ Sh C H p a b ∧ 0 < b ∧ Bit 4000 b ∧ Q (.int (a / b)) H
theorem ok_Share_floor {fd : FuncData} (F : FnD K ("Share", some "floor") "floor" "Share.floor" s_Share_floor fd) (T : STxt K mg) : OkD P w K mg base CX0 1 ("Share", some "floor") ["self"] [] (spFloor (CS K)) := by
  refine okd F (F.ok sc_Share_floor (fun vs H Q E h => ?_) fun cdv A outer s H vs Q E hr h => ?_) fun _ _ _ _ _ _ us hl => match us, hl with | [_], _ => rfl
  · obtain ⟨p, a, b, rfl, _⟩ := h
    rfl
  · obtain ⟨p, a, b, rfl, ⟨dx, hp⟩, h0, hb, q⟩ := h
    refine ⟨_, PSs.nox (pss_one (ps_ret (pe_op op_fdivW (pe_fld (pv 0) rfl) (pe_fld (pv 0) rfl)))), ?_⟩
    exact ⟨_, rfl, p, _, dx, _, _, rfl, hp, T.c_Share, T.nT, shf_top a b, _, rfl, p, _, dx, _, _, rfl, hp, T.c_Share, T.nB, shf_bottom a b, a, b, rfl, rfl, ⟨h0, hb.log (by decide) (by decide)⟩, q⟩
abbrev s_is_number : Stmt := top 9
theorem sc_is_number : FnScope ["x"] ["x"] (defScope s_is_number) := ⟨rfl, rfl, rfl, by decide +kernel, rfl, by decide +kernel, by decide +kernel⟩
-- slots: 0 x
def spIsNum (C : Addr) : Sp := fun vs H Q _ => ∃ x, vs = [x] ∧ (((∃ c d, Nm C H x c d) ∧ Q (.bl true) H) ∨ (Odd H x ∧ Q (.bl false) H))
theorem odd_share (T : STxt K mg) {H : Hp} {x : V} (o : Odd H x) : ∃ n : String, TyX K H x (.type n) ∧ PySem.W.kitOne K (.type n) (.ref (CS K)) = some false := by
  cases o with
  | bl b => exact ⟨"bool", .base (.bl b), T.kz _ (by simp)⟩
  | non => exact ⟨"NoneType", .base .non, T.kz _ (by simp)⟩
  | str z => exact ⟨"str", .base (.str z), T.kz _ (by simp)⟩
  | tup h => exact ⟨"tuple", .base (.tup h), T.kz _ (by simp)⟩
  | lst h => exact ⟨"list", .base (.lst h), T.kz _ (by simp)⟩
  | dic h => exact ⟨"dict", .base (.dK h), T.kz _ (by simp)⟩
theorem ok_is_number {fd : FuncData} (F : FnD K ("is_number", none) "is_number" "is_number" s_is_number fd) (T : STxt K mg) (O_is_integer : OkF P w K mg base CX0 1 "is_integer" ["x"] spIsInt) : OkF P w K mg base CX0 2 "is_number" ["x"] (spIsNum (CS K)) := by
  refine okd F (F.ok sc_is_number (fun vs H Q E h => ?_) fun cdv A outer s H vs Q E hr h => ?_) fun _ _ _ _ _ _ us hl => match us, hl with | [_], _ => rfl
  · obtain ⟨x, rfl, _⟩ := h
    rfl
  · obtain ⟨x, rfl, h⟩ := h
    refine ⟨_, PSs.nox (pss_one (ps_ret (pe_or (pe_callB call_isi (by rfl) T.z_isinstance (by decide +kernel) (pa_cons (pv 0) (pa_cons (pe_cl T.g_Share) pa_nil))) (pe_one (c_fn O_is_integer hr (by decide) T.g_is_integer pass0 (pa_cons (pv 0) pa_nil)))))), ?_⟩
    rcases h with ⟨⟨c, d, ⟨p, rfl, dx, hp⟩ | ⟨rfl, _⟩⟩, q⟩ | ⟨o, q⟩
    · exact ⟨_, rfl, .ref p, .ref (CS K), .ref (CS K), .ref (CS K), true, rfl, .own _, .base (.ins hp T.c_Share T.ha T.hn T.ht T.hm), T.k1, true, rfl, iteT q⟩
    · exact ⟨_, rfl, .int c, .ref (CS K), .type "int", .ref (CS K), false, rfl, .own _, .base (.int c), T.kz _ (by simp), false, rfl, iteF ⟨_, rfl, _, rfl, .inl ⟨⟨c, rfl⟩, q⟩⟩⟩
    · obtain ⟨n, ty, kk⟩ := odd_share T o
      exact ⟨_, rfl, x, .ref (CS K), .type n, .ref (CS K), false, rfl, .own _, ty, kk, false, rfl, iteF ⟨_, rfl, _, rfl, .inr ⟨o, q⟩⟩⟩
abbrev s_parts : Stmt := top 10
theorem sc_parts : FnScope ["number"] ["number"] (defScope s_parts) := ⟨rfl, rfl, rfl, by decide +kernel, rfl, by decide +kernel, by decide +kernel⟩
-- slots: 0 number
def spParts (C : Addr) : Sp := fun vs H Q _ => ∃ x c d, vs = [x] ∧ Nm C H x c d ∧ ∀ t, H t = none → Q (.ref t) (upd H t (.tup [.int c, .int d]))
theorem ok_parts {fd : FuncData} (F : FnD K ("parts", none) "parts" "parts" s_parts fd) (T : STxt K mg) : OkF P w K mg base CX0 1 "parts" ["number"] (spParts (CS K)) := by
  refine okd F (F.ok sc_parts (fun vs H Q E h => ?_) fun cdv A outer s H vs Q E hr h => ?_) fun _ _ _ _ _ _ us hl => match us, hl with | [_], _ => rfl
  · obtain ⟨x, c, d, rfl, _⟩ := h
    rfl
  · obtain ⟨x, c, d, rfl, h, q⟩ := h
    refine ⟨_, PSs.nox (pss_cons (ps_if (pt_val (pe_callB call_isi (by rfl) T.z_isinstance (by decide +kernel) (pa_cons (pv 0) (pa_cons (pe_cl T.g_Share) pa_nil)))) (pss_one (ps_ret (pe_tup (pa_cons (pe_fld (pv 0) rfl) (pa_cons (pe_fld (pv 0) rfl) pa_nil)))))
  pss_nil)
  (pss_one (ps_ret (pe_tup (pa_cons (pv 0) (pa_cons pe_int pa_nil)))))), ?_⟩
    rcases h with ⟨p, rfl, dx, hp⟩ | ⟨rfl, rfl⟩
    · refine ⟨_, rfl, .ref p, .ref (CS K), .ref (CS K), .ref (CS K), true, rfl, .own _, .base (.ins hp T.c_Share T.ha T.hn T.ht T.hm), T.k1, true, rfl, iteT ?_⟩
      exact ⟨_, rfl, p, _, dx, _, _, rfl, hp, T.c_Share, T.nT, shf_top c d, _, rfl, p, _, dx, _, _, rfl, hp, T.c_Share, T.nB, shf_bottom c d, (by show 2 ≤ sizeLine; decide), fun t nt => q t nt⟩
    · refine ⟨_, rfl, .int c, .ref (CS K), .type "int", .ref (CS K), false, rfl, .own _, .base (.int c), T.kz _ (by simp), false, rfl, iteF ?_⟩
      exact ⟨_, rfl, (by show 2 ≤ sizeLine; decide), fun t nt => q t nt⟩
end
end K4

set_option Elab.async false
set_option linter.all false
set_option maxRecDepth 100000
set_option maxHeartbeats 2000000
namespace K4
open PySem PySem.Spec PyProof.Rows L2 Vf
section
variable {P : Program} {w : World} {K : PySem.W.Frag} {mg : Str → Option Value} {base : Heap}
/-! ### the methods -/
structure SMeth (K : PySem.W.Frag) : Prop where
  m_add : Meth K (He.ga K "Share") "__add__" (He.fAd K ("Share", some "__add__"))
  m_radd : Meth K (He.ga K "Share") "__radd__" (He.fAd K ("Share", some "__radd__"))
  m_sub : Meth K (He.ga K "Share") "__sub__" (He.fAd K ("Share", some "__sub__"))
  m_rsub : Meth K (He.ga K "Share") "__rsub__" (He.fAd K ("Share", some "__rsub__"))
  m_mul : Meth K (He.ga K "Share") "__mul__" (He.fAd K ("Share", some "__mul__"))
  m_rmul : Meth K (He.ga K "Share") "__rmul__" (He.fAd K ("Share", some "__rmul__"))
  m_fdv : Meth K (He.ga K "Share") "__floordiv__" (He.fAd K ("Share", some "__floordiv__"))
  m_rfdv : Meth K (He.ga K "Share") "__rfloordiv__" (He.fAd K ("Share", some "__rfloordiv__"))
  m_neg : Meth K (He.ga K "Share") "__neg__" (He.fAd K ("Share", some "__neg__"))
  m_abs : Meth K (He.ga K "Share") "__abs__" (He.fAd K ("Share", some "__abs__"))
  m_over : Meth K (He.ga K "Share") "over" (He.fAd K ("Share", some "over"))
  m_floor : Meth K (He.ga K "Share") "floor" (He.fAd K ("Share", some "floor"))
/-- self a over b, other c over d: a share of F over G -/
def spAr (C : Addr) (F G : Int → Int → Int → Int → Int) : Sp := fun vs H Q _ => ∃ (p : Addr) (y : V) (a b c d : Int), vs = [.ref p, y] ∧ Sh C H p a b ∧ Nm C H y c d ∧ 0 < b ∧ 0 < d ∧ Bit 900 a ∧ Bit 900 b ∧ Bit 900 c ∧ Bit 900 d ∧
  ∀ (H' : Hp) (q : Addr), Same H H' → Sh C H' q (nT (F a b c d) (G a b c d)) (nB (F a b c d) (G a b c d)) → Q (.ref q) H'
def Fad (a b c d : Int) : Int := a * d + c * b
def Fsu (a b c d : Int) : Int := a * d - c * b
def Fmu (a _ c _ : Int) : Int := a * c
def Gbd (_ b _ d : Int) : Int := b * d
def Fov (a _ _ d : Int) : Int := a * d
def Gov (_ b c _ : Int) : Int := b * c
abbrev s_Share_add : Stmt := inClass (top 8) 1
theorem sc_Share_add : FnScope ["self", "other", "top", "bottom"] ["self", "other"] (defScope s_Share_add) := ⟨rfl, rfl, rfl, by decide +kernel, rfl, by decide +kernel, by decide +kernel⟩
-- slots: 0 self, 1 other, 2 top, 3 bottom
theorem ok_Share_add {fd : FuncData} (F : FnD K ("Share", some "__add__") "__add__" "Share.__add__" s_Share_add fd) (T : STxt K mg) (O_is_number : OkF P w K mg base CX0 2 "is_number" ["x"] (spIsNum (CS K))) (O_parts : OkF P w K mg base CX0 1 "parts" ["number"] (spParts (CS K)))
    (O_Share_init2 : OkD P w K mg base (L2.CX P w) 4 ("Share", some "__init__") ["self", "top", "bottom"] [] (spShI K)) : OkM P w K mg base CX0 6 "__add__" ["self", "other"] (spAr (CS K) Fad Gbd) := by
  refine okd F (F.ok sc_Share_add (fun vs H Q E h => ?_) fun cdv A outer s H vs Q E hr h => ?_) fun _ _ _ _ _ _ us hl => match us, hl with | [_, _], _ => rfl
  · obtain ⟨p, y, a, b, c, d, rfl, _⟩ := h
    rfl
  · obtain ⟨p, y, a, b, c, d, rfl, ⟨dx, hp⟩, hN, b0, d0, ba, bb, bc, bd, k⟩ := h
    have ft := shf_top a b
    have fb := shf_bottom a b
    refine ⟨_, PSs.nox (pss_cons (ps_if (pt_not (pt_val (c_fn O_is_number hr (by decide) T.g_is_number pass0 (pa_cons (pv 1) pa_nil)))) (pss_one ps_never)
  pss_nil)
  (pss_cons (ps_asg (c_fn O_parts hr (by decide) T.g_parts pass0 (pa_cons (pv 1) pa_nil)) (pg_tup rfl (pgs_cons (pg_name (i := 2) sc_Share_add.nd rfl (Or.inl rfl)) (pgs_cons (pg_name (i := 3) sc_Share_add.nd rfl (Or.inl rfl)) pgs_nil))))
  (pss_one (ps_ret (c_mk T.m_Share O_Share_init2 hr (by decide) T.g_Share passL (pa_cons (pe_op op_add (pe_op op_mulW (pe_fld (pv 0) rfl) (pv 3)) (pe_op op_mulW (pv 2) (pe_fld (pv 0) rfl))) (pa_cons (pe_op op_mulW (pe_fld (pv 0) rfl) (pv 3)) pa_nil))))))), ?_⟩
    refine ⟨_, rfl, y, rfl, .inl ⟨⟨c, d, hN⟩, true, rfl, iteF ?_⟩⟩
    refine ⟨_, rfl, y, c, d, rfl, hN, fun t nt => ?_⟩
    have st := same_new (o := .tup [.int c, .int d]) nt
    have hp' := st _ _ hp
    refine ⟨t, _, rfl, SqT.of upd_same, rfl, _, _, rfl, _, _, rfl, rfl, ?_⟩
    refine ⟨_, rfl, p, _, dx, _, _, rfl, hp', T.c_Share, T.nT, ft, _, rfl, a, d, rfl, rfl, ba.wm bd (by decide) (by decide) (by decide), _, rfl, _, rfl, p, _, dx, _, _, rfl, hp', T.c_Share, T.nB, fb, c, b, rfl, rfl, bc.wm bb (by decide) (by decide) (by decide), _, _, rfl, rfl, _, rfl, p, _, dx, _, _, rfl, hp', T.c_Share, T.nB, fb, _, rfl, b, d, rfl, rfl, bb.wm bd (by decide) (by decide) (by decide), fun q dx2 nq ndx ne => ?_⟩
    exact ⟨q, dx2, _, _, rfl, upd_same, .inl ⟨_, _, rfl, rfl, Int.ne_of_gt (Int.mul_pos b0 d0), (bb.mul bd).mono (by decide), rfl, k _ q (st.trans (same_make2 nq ndx)) ⟨dx2, upd_same⟩⟩⟩
abbrev s_Share_sub : Stmt := inClass (top 8) 3
theorem sc_Share_sub : FnScope ["self", "other", "top", "bottom"] ["self", "other"] (defScope s_Share_sub) := ⟨rfl, rfl, rfl, by decide +kernel, rfl, by decide +kernel, by decide +kernel⟩
-- slots: 0 self, 1 other, 2 top, 3 bottom
theorem ok_Share_sub {fd : FuncData} (F : FnD K ("Share", some "__sub__") "__sub__" "Share.__sub__" s_Share_sub fd) (T : STxt K mg) (O_is_number : OkF P w K mg base CX0 2 "is_number" ["x"] (spIsNum (CS K))) (O_parts : OkF P w K mg base CX0 1 "parts" ["number"] (spParts (CS K)))
    (O_Share_init2 : OkD P w K mg base (L2.CX P w) 4 ("Share", some "__init__") ["self", "top", "bottom"] [] (spShI K)) : OkM P w K mg base CX0 6 "__sub__" ["self", "other"] (spAr (CS K) Fsu Gbd) := by
  refine okd F (F.ok sc_Share_sub (fun vs H Q E h => ?_) fun cdv A outer s H vs Q E hr h => ?_) fun _ _ _ _ _ _ us hl => match us, hl with | [_, _], _ => rfl
  · obtain ⟨p, y, a, b, c, d, rfl, _⟩ := h
    rfl
  · obtain ⟨p, y, a, b, c, d, rfl, ⟨dx, hp⟩, hN, b0, d0, ba, bb, bc, bd, k⟩ := h
    have ft := shf_top a b
    have fb := shf_bottom a b
    refine ⟨_, PSs.nox (pss_cons (ps_if (pt_not (pt_val (c_fn O_is_number hr (by decide) T.g_is_number pass0 (pa_cons (pv 1) pa_nil)))) (pss_one ps_never)
  pss_nil)
  (pss_cons (ps_asg (c_fn O_parts hr (by decide) T.g_parts pass0 (pa_cons (pv 1) pa_nil)) (pg_tup rfl (pgs_cons (pg_name (i := 2) sc_Share_sub.nd rfl (Or.inl rfl)) (pgs_cons (pg_name (i := 3) sc_Share_sub.nd rfl (Or.inl rfl)) pgs_nil))))
  (pss_one (ps_ret (c_mk T.m_Share O_Share_init2 hr (by decide) T.g_Share passL (pa_cons (pe_op op_sub (pe_op op_mulW (pe_fld (pv 0) rfl) (pv 3)) (pe_op op_mulW (pv 2) (pe_fld (pv 0) rfl))) (pa_cons (pe_op op_mulW (pe_fld (pv 0) rfl) (pv 3)) pa_nil))))))), ?_⟩
    refine ⟨_, rfl, y, rfl, .inl ⟨⟨c, d, hN⟩, true, rfl, iteF ?_⟩⟩
    refine ⟨_, rfl, y, c, d, rfl, hN, fun t nt => ?_⟩
    have st := same_new (o := .tup [.int c, .int d]) nt
    have hp' := st _ _ hp
    refine ⟨t, _, rfl, SqT.of upd_same, rfl, _, _, rfl, _, _, rfl, rfl, ?_⟩
    refine ⟨_, rfl, p, _, dx, _, _, rfl, hp', T.c_Share, T.nT, ft, _, rfl, a, d, rfl, rfl, ba.wm bd (by decide) (by decide) (by decide), _, rfl, _, rfl, p, _, dx, _, _, rfl, hp', T.c_Share, T.nB, fb, c, b, rfl, rfl, bc.wm bb (by decide) (by decide) (by decide), _, _, rfl, rfl, _, rfl, p, _, dx, _, _, rfl, hp', T.c_Share, T.nB, fb, _, rfl, b, d, rfl, rfl, bb.wm bd (by decide) (by decide) (by decide), fun q dx2 nq ndx ne => ?_⟩
    exact ⟨q, dx2, _, _, rfl, upd_same, .inl ⟨_, _, rfl, rfl, Int.ne_of_gt (Int.mul_pos b0 d0), (bb.mul bd).mono (by decide), rfl, k _ q (st.trans (same_make2 nq ndx)) ⟨dx2, upd_same⟩⟩⟩
abbrev s_Share_mul : Stmt := inClass (top 8) 5
theorem sc_Share_mul : FnScope ["self", "other", "top", "bottom"] ["self", "other"] (defScope s_Share_mul) := ⟨rfl, rfl, rfl, by decide +kernel, rfl, by decide +kernel, by decide +kernel⟩
-- slots: 0 self, 1 other, 2 top, 3 bottom
theorem ok_Share_mul {fd : FuncData} (F : FnD K ("Share", some "__mul__") "__mul__" "Share.__mul__" s_Share_mul fd) (T : STxt K mg) (O_is_number : OkF P w K mg base CX0 2 "is_number" ["x"] (spIsNum (CS K))) (O_parts : OkF P w K mg base CX0 1 "parts" ["number"] (spParts (CS K)))
    (O_Share_init2 : OkD P w K mg base (L2.CX P w) 4 ("Share", some "__init__") ["self", "top", "bottom"] [] (spShI K)) : OkM P w K mg base CX0 6 "__mul__" ["self", "other"] (spAr (CS K) Fmu Gbd) := by
  refine okd F (F.ok sc_Share_mul (fun vs H Q E h => ?_) fun cdv A outer s H vs Q E hr h => ?_) fun _ _ _ _ _ _ us hl => match us, hl with | [_, _], _ => rfl
  · obtain ⟨p, y, a, b, c, d, rfl, _⟩ := h
    rfl
  · obtain ⟨p, y, a, b, c, d, rfl, ⟨dx, hp⟩, hN, b0, d0, ba, bb, bc, bd, k⟩ := h
    have ft := shf_top a b
    have fb := shf_bottom a b
    refine ⟨_, PSs.nox (pss_cons (ps_if (pt_not (pt_val (c_fn O_is_number hr (by decide) T.g_is_number pass0 (pa_cons (pv 1) pa_nil)))) (pss_one ps_never)
  pss_nil)
  (pss_cons (ps_asg (c_fn O_parts hr (by decide) T.g_parts pass0 (pa_cons (pv 1) pa_nil)) (pg_tup rfl (pgs_cons (pg_name (i := 2) sc_Share_mul.nd rfl (Or.inl rfl)) (pgs_cons (pg_name (i := 3) sc_Share_mul.nd rfl (Or.inl rfl)) pgs_nil))))
  (pss_one (ps_ret (c_mk T.m_Share O_Share_init2 hr (by decide) T.g_Share passL (pa_cons (pe_op op_mulW (pe_fld (pv 0) rfl) (pv 2)) (pa_cons (pe_op op_mulW (pe_fld (pv 0) rfl) (pv 3)) pa_nil))))))), ?_⟩
    refine ⟨_, rfl, y, rfl, .inl ⟨⟨c, d, hN⟩, true, rfl, iteF ?_⟩⟩
    refine ⟨_, rfl, y, c, d, rfl, hN, fun t nt => ?_⟩
    have st := same_new (o := .tup [.int c, .int d]) nt
    have hp' := st _ _ hp
    refine ⟨t, _, rfl, SqT.of upd_same, rfl, _, _, rfl, _, _, rfl, rfl, ?_⟩
    refine ⟨_, rfl, p, _, dx, _, _, rfl, hp', T.c_Share, T.nT, ft, _, rfl, a, c, rfl, rfl, ba.wm bc (by decide) (by decide) (by decide), _, rfl, p, _, dx, _, _, rfl, hp', T.c_Share, T.nB, fb, _, rfl, b, d, rfl, rfl, bb.wm bd (by decide) (by decide) (by decide), fun q dx2 nq ndx ne => ?_⟩
    exact ⟨q, dx2, _, _, rfl, upd_same, .inl ⟨_, _, rfl, rfl, Int.ne_of_gt (Int.mul_pos b0 d0), (bb.mul bd).mono (by decide), rfl, k _ q (st.trans (same_make2 nq ndx)) ⟨dx2, upd_same⟩⟩⟩
/-- over -/
def spOver (K : PySem.W.Frag) : Sp := fun vs H Q E => ∃ (p : Addr) (y : V) (a b c d : Int), vs = [.ref p, y] ∧ Sh (CS K) H p a b ∧ Nm (CS K) H y c d ∧ 0 < b ∧ 0 < d ∧ Bit 900 a ∧ Bit 900 b ∧ Bit 900 c ∧ Bit 900 d ∧
  (c ≠ 0 → ∀ (H' : Hp) (q : Addr), Same H H' → Sh (CS K) H' q (nT (Fov a b c d) (Gov a b c d)) (nB (Fov a b c d) (Gov a b c d)) → Q (.ref q) H') ∧ (c = 0 → ∀ H', Same H H' → E (.ref (CN K)) none H')
abbrev s_Share_over : Stmt := inClass (top 8) 18
theorem sc_Share_over : FnScope ["self", "other", "top", "bottom"] ["self", "other"] (defScope s_Share_over) := ⟨rfl, rfl, rfl, by decide +kernel, rfl, by decide +kernel, by decide +kernel⟩
-- slots: 0 self, 1 other, 2 top, 3 bottom
theorem ok_Share_over {fd : FuncData} (F : FnD K ("Share", some "over") "over" "Share.over" s_Share_over fd) (T : STxt K mg) (O_parts : OkF P w K mg base CX0 1 "parts" ["number"] (spParts (CS K)))
    (O_Share_init2 : OkD P w K mg base (L2.CX P w) 4 ("Share", some "__init__") ["self", "top", "bottom"] [] (spShI K)) : OkM P w K mg base (L2.CX P w) 6 "over" ["self", "other"] (spOver K) := by
  refine okd F (F.ok sc_Share_over (fun vs H Q E h => ?_) fun cdv A outer s H vs Q E hr h => ?_) fun _ _ _ _ _ _ us hl => match us, hl with | [_, _], _ => rfl
  · obtain ⟨p, y, a, b, c, d, rfl, _⟩ := h
    rfl
  · obtain ⟨p, y, a, b, c, d, rfl, ⟨dx, hp⟩, hN, b0, d0, ba, bb, bc, bd, k1, k2⟩ := h
    have ft := shf_top a b
    have fb := shf_bottom a b
    refine ⟨_, (pss_cons (ps_asg (c_fn O_parts hr (by decide) T.g_parts pass0 (pa_cons (pv 1) pa_nil)) (pg_tup rfl (pgs_cons (pg_name (i := 2) sc_Share_over.nd rfl (Or.inl rfl)) (pgs_cons (pg_name (i := 3) sc_Share_over.nd rfl (Or.inl rfl)) pgs_nil))))
  (pss_cons (ps_if (pt_cmpR op_eq (pv 2) pe_int (nomark _)) (pss_one (c_raise0 T.e_NoShare T.g_NoShare (takes_of rfl rfl rfl rfl)))
  pss_nil)
  (pss_one (ps_ret (c_mk T.m_Share O_Share_init2 hr (by decide) T.g_Share passL (pa_cons (pe_op op_mulW (pe_fld (pv 0) rfl) (pv 3)) (pa_cons (pe_op op_mulW (pe_fld (pv 0) rfl) (pv 2)) pa_nil))))))), ?_⟩
    refine ⟨_, rfl, y, c, d, rfl, hN, fun t nt => ?_⟩
    have st := same_new (o := .tup [.int c, .int d]) nt
    have hp' := st _ _ hp
    refine ⟨t, _, rfl, SqT.of upd_same, rfl, _, _, rfl, _, _, rfl, rfl, ?_⟩
    refine ⟨_, rfl, rfl, _, rfl, ite2 (fun h => ?_) fun h => ?_⟩
    · exact k2 (V.int.inj (of_decide_eq_true h)) _ st
    · have hc : c ≠ 0 := fun z => h (decide_eq_true (by rw [z]))
      refine ⟨_, rfl, p, _, dx, _, _, rfl, hp', T.c_Share, T.nT, ft, _, rfl, a, d, rfl, rfl, ba.wm bd (by decide) (by decide) (by decide), _, rfl, p, _, dx, _, _, rfl, hp', T.c_Share, T.nB, fb, _, rfl, b, c, rfl, rfl, bb.wm bc (by decide) (by decide) (by decide), fun q dx2 nq ndx ne => ?_⟩
      exact ⟨q, dx2, _, _, rfl, upd_same, .inl ⟨_, _, rfl, rfl, Int.mul_ne_zero (Int.ne_of_gt b0) hc, (bb.mul bc).mono (by decide), rfl, k1 hc _ q (st.trans (same_make2 nq ndx)) ⟨dx2, upd_same⟩⟩⟩
/-- -self, abs(self) -/
def spUn (C : Addr) (f : Int → Int) : Sp := fun vs H Q _ => ∃ (p : Addr) (a b : Int), vs = [.ref p] ∧ Sh C H p a b ∧ 0 < b ∧ Bit 900 a ∧ Bit 900 b ∧ ∀ (H' : Hp) (q : Addr), Same H H' → Sh C H' q (nT (f a) b) (nB (f a) b) → Q (.ref q) H'
def Fng (a : Int) : Int := -a
def Fab (a : Int) : Int := if a < 0 then -a else a
abbrev s_Share_neg : Stmt := inClass (top 8) 9
theorem sc_Share_neg : FnScope ["self"] ["self"] (defScope s_Share_neg) := ⟨rfl, rfl, rfl, by decide +kernel, rfl, by decide +kernel, by decide +kernel⟩
-- slots: 0 self
theorem ok_Share_neg {fd : FuncData} (F : FnD K ("Share", some "__neg__") "__neg__" "Share.__neg__" s_Share_neg fd) (T : STxt K mg)
    (O_Share_init2 : OkD P w K mg base (L2.CX P w) 4 ("Share", some "__init__") ["self", "top", "bottom"] [] (spShI K)) : OkM P w K mg base CX0 6 "__neg__" ["self"] (spUn (CS K) Fng) := by
  refine okd F (F.ok sc_Share_neg (fun vs H Q E h => ?_) fun cdv A outer s H vs Q E hr h => ?_) fun _ _ _ _ _ _ us hl => match us, hl with | [_], _ => rfl
  · obtain ⟨p, a, b, rfl, _⟩ := h
    rfl
  · obtain ⟨p, a, b, rfl, ⟨dx, hp⟩, b0, ba, bb, k⟩ := h
    refine ⟨_, PSs.nox (pss_one (ps_ret (c_mk T.m_Share O_Share_init2 hr (by decide) T.g_Share passL (pa_cons (pe_un un_neg (pe_fld (pv 0) rfl)) (pa_cons (pe_fld (pv 0) rfl) pa_nil))))), ?_⟩
    refine ⟨_, rfl, p, _, dx, _, _, rfl, hp, T.c_Share, T.nT, shf_top a b, a, rfl, _, rfl, p, _, dx, _, _, rfl, hp, T.c_Share, T.nB, shf_bottom a b, fun q dx2 nq ndx ne => ?_⟩
    exact ⟨q, dx2, _, _, rfl, upd_same, .inl ⟨_, _, rfl, rfl, Int.ne_of_gt b0, bb.mono (by decide), rfl, k _ q (same_make2 nq ndx) ⟨dx2, upd_same⟩⟩⟩
abbrev s_Share_abs : Stmt := inClass (top 8) 10
theorem sc_Share_abs : FnScope ["self"] ["self"] (defScope s_Share_abs) := ⟨rfl, rfl, rfl, by decide +kernel, rfl, by decide +kernel, by decide +kernel⟩
-- slots: 0 self
theorem ok_Share_abs {fd : FuncData} (F : FnD K ("Share", some "__abs__") "__abs__" "Share.__abs__" s_Share_abs fd) (T : STxt K mg)
    (O_Share_init2 : OkD P w K mg base (L2.CX P w) 4 ("Share", some "__init__") ["self", "top", "bottom"] [] (spShI K)) : OkM P w K mg base CX0 6 "__abs__" ["self"] (spUn (CS K) Fab) := by
  refine okd F (F.ok sc_Share_abs (fun vs H Q E h => ?_) fun cdv A outer s H vs Q E hr h => ?_) fun _ _ _ _ _ _ us hl => match us, hl with | [_], _ => rfl
  · obtain ⟨p, a, b, rfl, _⟩ := h
    rfl
  · obtain ⟨p, a, b, rfl, ⟨dx, hp⟩, b0, ba, bb, k⟩ := h
    refine ⟨_, PSs.nox (pss_one (ps_ret (c_mk T.m_Share O_Share_init2 hr (by decide) T.g_Share passL (pa_cons (pe_callB call_abs (by rfl) T.z_abs (by decide +kernel) (pa_cons (pe_fld (pv 0) rfl) pa_nil)) (pa_cons (pe_fld (pv 0) rfl) pa_nil))))), ?_⟩
    refine ⟨_, rfl, p, _, dx, _, _, rfl, hp, T.c_Share, T.nT, shf_top a b, a, rfl, _, rfl, p, _, dx, _, _, rfl, hp, T.c_Share, T.nB, shf_bottom a b, fun q dx2 nq ndx ne => ?_⟩
    exact ⟨q, dx2, _, _, rfl, upd_same, .inl ⟨_, _, rfl, rfl, Int.ne_of_gt b0, bb.mono (by decide), rfl, k _ q (same_make2 nq ndx) ⟨dx2, upd_same⟩⟩⟩
end
end K4

set_option Elab.async false
set_option linter.all false
set_option maxRecDepth 100000
set_option maxHeartbeats 2000000
namespace K4
open PySem PySem.Spec PyProof.Rows L2 Vf
section
variable {P : Program} {w : World} {K : PySem.W.Frag} {mg : Str → Option Value} {base : Heap}
/-- self a over b, other the int n -/
def spRe (C : Addr) (F G : Int → Int → Int → Int → Int) : Sp := fun vs H Q _ => ∃ (p : Addr) (n a b : Int), vs = [.ref p, .int n] ∧ Sh C H p a b ∧ 0 < b ∧ Bit 900 a ∧ Bit 900 b ∧ Bit 900 n ∧
  ∀ (H' : Hp) (q : Addr), Same H H' → Sh C H' q (nT (F a b n 1) (G a b n 1)) (nB (F a b n 1) (G a b n 1)) → Q (.ref q) H'
theorem one_bit (n : Nat) : Bit (n + 1) 1 := Nat.one_lt_two_pow (by omega)
abbrev s_Share_radd : Stmt := inClass (top 8) 2
theorem sc_Share_radd : FnScope ["self", "other"] ["self", "other"] (defScope s_Share_radd) := ⟨rfl, rfl, rfl, by decide +kernel, rfl, by decide +kernel, by decide +kernel⟩
-- slots: 0 self, 1 other
theorem ok_Share_radd {fd : FuncData} (F : FnD K ("Share", some "__radd__") "__radd__" "Share.__radd__" s_Share_radd fd) (T : STxt K mg) (M : SMeth K) (O_is_number : OkF P w K mg base CX0 2 "is_number" ["x"] (spIsNum (CS K))) (O_add : OkM P w K mg base CX0 6 "__add__" ["self", "other"] (spAr (CS K) Fad Gbd)) : OkM P w K mg base CX0 7 "__radd__" ["self", "other"] (spRe (CS K) Fad Gbd) := by
  refine okd F (F.ok sc_Share_radd (fun vs H Q E h => ?_) fun cdv A outer s H vs Q E hr h => ?_) fun _ _ _ _ _ _ us hl => match us, hl with | [_, _], _ => rfl
  · obtain ⟨p, n, a, b, rfl, _⟩ := h
    rfl
  · obtain ⟨p, n, a, b, rfl, ⟨dx, hp⟩, b0, ba, bb, bn, k⟩ := h
    refine ⟨_, PSs.nox (pss_cons (ps_if (pt_not (pt_val (c_fn O_is_number hr (by decide) T.g_is_number pass0 (pa_cons (pv 1) pa_nil)))) (pss_one ps_never) pss_nil)
      (pss_one (ps_ret (pe_op (op_oi (E := E0) rfl M.m_add T.hc M.m_radd.at_ (.inr ⟨_, rfl⟩) (int_add K) (int_radd K) T.hs O_add hr (by decide) pass0) (pv 0) (pv 1))))), ?_⟩
    refine ⟨_, rfl, .int n, rfl, .inl ⟨⟨n, 1, .inr ⟨rfl, rfl⟩⟩, true, rfl, iteF ?_⟩⟩
    exact ⟨_, rfl, _, rfl, p, n, dx, _, rfl, rfl, hp, p, .int n, a, b, n, 1, rfl, ⟨dx, hp⟩, .inr ⟨rfl, rfl⟩, b0, by decide, ba, bb, bn, one_bit _, k⟩
abbrev s_Share_rmul : Stmt := inClass (top 8) 6
theorem sc_Share_rmul : FnScope ["self", "other"] ["self", "other"] (defScope s_Share_rmul) := ⟨rfl, rfl, rfl, by decide +kernel, rfl, by decide +kernel, by decide +kernel⟩
-- slots: 0 self, 1 other
theorem ok_Share_rmul {fd : FuncData} (F : FnD K ("Share", some "__rmul__") "__rmul__" "Share.__rmul__" s_Share_rmul fd) (T : STxt K mg) (M : SMeth K) (O_is_number : OkF P w K mg base CX0 2 "is_number" ["x"] (spIsNum (CS K))) (O_mul : OkM P w K mg base CX0 6 "__mul__" ["self", "other"] (spAr (CS K) Fmu Gbd)) : OkM P w K mg base CX0 7 "__rmul__" ["self", "other"] (spRe (CS K) Fmu Gbd) := by
  refine okd F (F.ok sc_Share_rmul (fun vs H Q E h => ?_) fun cdv A outer s H vs Q E hr h => ?_) fun _ _ _ _ _ _ us hl => match us, hl with | [_, _], _ => rfl
  · obtain ⟨p, n, a, b, rfl, _⟩ := h
    rfl
  · obtain ⟨p, n, a, b, rfl, ⟨dx, hp⟩, b0, ba, bb, bn, k⟩ := h
    refine ⟨_, PSs.nox (pss_cons (ps_if (pt_not (pt_val (c_fn O_is_number hr (by decide) T.g_is_number pass0 (pa_cons (pv 1) pa_nil)))) (pss_one ps_never) pss_nil)
      (pss_one (ps_ret (pe_op (op_oi (E := E0) rfl M.m_mul T.hc M.m_rmul.at_ (.inr ⟨_, rfl⟩) (int_mul K) (int_rmul K) T.hs O_mul hr (by decide) pass0) (pv 0) (pv 1))))), ?_⟩
    refine ⟨_, rfl, .int n, rfl, .inl ⟨⟨n, 1, .inr ⟨rfl, rfl⟩⟩, true, rfl, iteF ?_⟩⟩
    exact ⟨_, rfl, _, rfl, p, n, dx, _, rfl, rfl, hp, p, .int n, a, b, n, 1, rfl, ⟨dx, hp⟩, .inr ⟨rfl, rfl⟩, b0, by decide, ba, bb, bn, one_bit _, k⟩
/-- n - self: -self + n -/
def spRs (C : Addr) : Sp := fun vs H Q _ => ∃ (p : Addr) (n a b : Int), vs = [.ref p, .int n] ∧ Sh C H p a b ∧ 0 < b ∧ Bit 900 a ∧ Bit 900 b ∧ Bit 900 n ∧
  ∀ (H' : Hp) (q : Addr), Same H H' → Sh C H' q (nT (Fad (nT (-a) b) (nB (-a) b) n 1) (Gbd (nT (-a) b) (nB (-a) b) n 1)) (nB (Fad (nT (-a) b) (nB (-a) b) n 1) (Gbd (nT (-a) b) (nB (-a) b) n 1)) → Q (.ref q) H'
abbrev s_Share_rsub : Stmt := inClass (top 8) 4
theorem sc_Share_rsub : FnScope ["self", "other"] ["self", "other"] (defScope s_Share_rsub) := ⟨rfl, rfl, rfl, by decide +kernel, rfl, by decide +kernel, by decide +kernel⟩
-- slots: 0 self, 1 other
theorem ok_Share_rsub {fd : FuncData} (F : FnD K ("Share", some "__rsub__") "__rsub__" "Share.__rsub__" s_Share_rsub fd) (T : STxt K mg) (M : SMeth K) (O_is_number : OkF P w K mg base CX0 2 "is_number" ["x"] (spIsNum (CS K))) (O_add : OkM P w K mg base CX0 6 "__add__" ["self", "other"] (spAr (CS K) Fad Gbd)) (O_neg : OkM P w K mg base CX0 6 "__neg__" ["self"] (spUn (CS K) Fng)) : OkM P w K mg base CX0 7 "__rsub__" ["self", "other"] (spRs (CS K)) := by
  refine okd F (F.ok sc_Share_rsub (fun vs H Q E h => ?_) fun cdv A outer s H vs Q E hr h => ?_) fun _ _ _ _ _ _ us hl => match us, hl with | [_, _], _ => rfl
  · obtain ⟨p, n, a, b, rfl, _⟩ := h
    rfl
  · obtain ⟨p, n, a, b, rfl, ⟨dx, hp⟩, b0, ba, bb, bn, k⟩ := h
    refine ⟨_, PSs.nox (pss_cons (ps_if (pt_not (pt_val (c_fn O_is_number hr (by decide) T.g_is_number pass0 (pa_cons (pv 1) pa_nil)))) (pss_one ps_never) pss_nil)
      (pss_one (ps_ret (pe_op (op_oi (E := E0) rfl M.m_add T.hc M.m_radd.at_ (.inr ⟨_, rfl⟩) (int_add K) (int_radd K) T.hs O_add hr (by decide) pass0) (pe_un (un_negO (E := E0) M.m_neg O_neg hr (by decide) pass0) (pv 0)) (pv 1))))), ?_⟩
    refine ⟨_, rfl, .int n, rfl, .inl ⟨⟨n, 1, .inr ⟨rfl, rfl⟩⟩, true, rfl, iteF ?_⟩⟩
    have nf := nf_of (-a) (Int.ne_of_gt b0)
    refine ⟨_, rfl, p, dx, _, rfl, hp, p, a, b, rfl, ⟨dx, hp⟩, b0, ba, bb, fun H1 q sm hq => ?_⟩
    obtain ⟨dq, hq2⟩ := id hq
    exact ⟨_, rfl, q, n, dq, _, rfl, rfl, hq2, q, .int n, _, _, n, 1, rfl, hq, .inr ⟨rfl, rfl⟩, nf.pos, by decide, ba.neg.le nf.le1, bb.le nf.le2, bn, one_bit _, fun H' r s1 hs => k H' r (sm.trans s1) hs⟩
/-- self // other -/
def spFd (K : PySem.W.Frag) : Sp := fun vs H Q E => ∃ (p : Addr) (y : V) (a b c d : Int), vs = [.ref p, y] ∧ Sh (CS K) H p a b ∧ Nm (CS K) H y c d ∧ 0 < b ∧ 0 < d ∧ Bit 900 a ∧ Bit 900 b ∧ Bit 900 c ∧ Bit 900 d ∧
  (c ≠ 0 → ∀ (H' : Hp), Same H H' → Q (.int (nT (Fov a b c d) (Gov a b c d) / nB (Fov a b c d) (Gov a b c d))) H') ∧ (c = 0 → ∀ H', Same H H' → E (.ref (CN K)) none H')
abbrev s_Share_floordiv : Stmt := inClass (top 8) 7
theorem sc_Share_floordiv : FnScope ["self", "other"] ["self", "other"] (defScope s_Share_floordiv) := ⟨rfl, rfl, rfl, by decide +kernel, rfl, by decide +kernel, by decide +kernel⟩
-- slots: 0 self, 1 other
theorem ok_Share_floordiv {fd : FuncData} (F : FnD K ("Share", some "__floordiv__") "__floordiv__" "Share.__floordiv__" s_Share_floordiv fd) (T : STxt K mg) (M : SMeth K) (O_is_number : OkF P w K mg base CX0 2 "is_number" ["x"] (spIsNum (CS K))) (O_over : OkM P w K mg base (L2.CX P w) 6 "over" ["self", "other"] (spOver K)) (O_floor : OkM P w K mg base CX0 1 "floor" ["self"] (spFloor (CS K))) : OkM P w K mg base (L2.CX P w) 7 "__floordiv__" ["self", "other"] (spFd K) := by
  refine okd F (F.ok sc_Share_floordiv (fun vs H Q E h => ?_) fun cdv A outer s H vs Q E hr h => ?_) fun _ _ _ _ _ _ us hl => match us, hl with | [_, _], _ => rfl
  · obtain ⟨p, y, a, b, c, d, rfl, _⟩ := h
    rfl
  · obtain ⟨p, y, a, b, c, d, rfl, ⟨dx, hp⟩, hN, b0, d0, ba, bb, bc, bd, k1, k2⟩ := h
    refine ⟨_, (pss_cons (ps_if (pt_not (pt_val (c_fn O_is_number hr (by decide) T.g_is_number pass0 (pa_cons (pv 1) pa_nil)))) (pss_one ps_never) pss_nil)
      (pss_one (ps_ret (c_me0 (E := E0) rfl (c_me rfl (pv 0) T.c_Share M.m_over O_over hr (by decide) (passX (takes_of rfl rfl rfl rfl)) (pa_cons (pv 1) pa_nil)) T.c_Share M.m_floor O_floor hr (by decide) pass0)))), ?_⟩
    refine ⟨_, rfl, y, rfl, .inl ⟨⟨c, d, hN⟩, true, rfl, iteF ?_⟩⟩
    refine ⟨_, rfl, p, dx, _, rfl, hp, shf_no _ _ (by decide +kernel) (by decide +kernel), _, rfl, p, y, a, b, c, d, rfl, ⟨dx, hp⟩, hN, b0, d0, ba, bb, bc, bd, fun hc H' q sm hq => ?_, fun hc H' sm => k2 hc H' sm⟩
    obtain ⟨dq, hq2⟩ := id hq
    have hg : Gov a b c d ≠ 0 := Int.mul_ne_zero (Int.ne_of_gt b0) hc
    have nf := nf_of (Fov a b c d) hg
    exact ⟨q, dq, _, rfl, hq2, shf_no _ _ (by decide +kernel) (by decide +kernel), q, _, _, rfl, hq, nf.pos, ((bb.mul bc).le nf.le2).mono (by decide), k1 hc H' sm⟩
/-- other // self, other the int n -/
def spRf (K : PySem.W.Frag) : Sp := fun vs H Q E => ∃ (p : Addr) (n a b : Int), vs = [.ref p, .int n] ∧ Sh (CS K) H p a b ∧ 0 < b ∧ Bit 900 a ∧ Bit 900 b ∧ Bit 900 n ∧
  (a ≠ 0 → ∀ (H' : Hp), Same H H' → Q (.int (nT (Fov (nT n 1) (nB n 1) a b) (Gov (nT n 1) (nB n 1) a b) / nB (Fov (nT n 1) (nB n 1) a b) (Gov (nT n 1) (nB n 1) a b))) H') ∧ (a = 0 → ∀ H', Same H H' → E (.ref (CN K)) none H')
abbrev s_Share_rfloordiv : Stmt := inClass (top 8) 8
theorem sc_Share_rfloordiv : FnScope ["self", "other"] ["self", "other"] (defScope s_Share_rfloordiv) := ⟨rfl, rfl, rfl, by decide +kernel, rfl, by decide +kernel, by decide +kernel⟩
-- slots: 0 self, 1 other
theorem ok_Share_rfloordiv {fd : FuncData} (F : FnD K ("Share", some "__rfloordiv__") "__rfloordiv__" "Share.__rfloordiv__" s_Share_rfloordiv fd) (T : STxt K mg) (M : SMeth K) (O_is_number : OkF P w K mg base CX0 2 "is_number" ["x"] (spIsNum (CS K))) (O_over : OkM P w K mg base (L2.CX P w) 6 "over" ["self", "other"] (spOver K)) (O_floor : OkM P w K mg base CX0 1 "floor" ["self"] (spFloor (CS K)))
    (O_Share_init1 : OkD P w K mg base (L2.CX P w) 4 ("Share", some "__init__") ["self", "top", "bottom"] [.int 1] (spShI K)) : OkM P w K mg base (L2.CX P w) 7 "__rfloordiv__" ["self", "other"] (spRf K) := by
  refine okd F (F.ok sc_Share_rfloordiv (fun vs H Q E h => ?_) fun cdv A outer s H vs Q E hr h => ?_) fun _ _ _ _ _ _ us hl => match us, hl with | [_, _], _ => rfl
  · obtain ⟨p, n, a, b, rfl, _⟩ := h
    rfl
  · obtain ⟨p, n, a, b, rfl, hS, b0, ba, bb, bn, k1, k2⟩ := h
    refine ⟨_, (pss_cons (ps_if (pt_not (pt_val (c_fn O_is_number hr (by decide) T.g_is_number pass0 (pa_cons (pv 1) pa_nil)))) (pss_one ps_never) pss_nil)
      (pss_one (ps_ret (c_me0 (E := E0) rfl (c_me rfl (c_mk T.m_Share O_Share_init1 hr (by decide) T.g_Share passL (pa_cons (pv 1) pa_nil)) T.c_Share M.m_over O_over hr (by decide) (passX (takes_of rfl rfl rfl rfl)) (pa_cons (pv 0) pa_nil)) T.c_Share M.m_floor O_floor hr (by decide) pass0)))), ?_⟩
    refine ⟨_, rfl, .int n, rfl, .inl ⟨⟨n, 1, .inr ⟨rfl, rfl⟩⟩, true, rfl, iteF ?_⟩⟩
    have nf1 := nf_of n (b := 1) (by decide)
    refine ⟨_, rfl, fun r dr nr ndr ne => ⟨r, dr, .int n, .int 1, rfl, upd_same, .inl ⟨n, 1, rfl, rfl, by decide, one_bit _, rfl, ?_⟩⟩⟩
    have sr := same_make2 (o1 := .own r) (o2 := .ins (CS K) dr []) (o3 := .ins (CS K) dr (shf (nT n 1) (nB n 1))) nr ndr
    refine ⟨r, dr, _, rfl, upd_same, shf_no _ _ (by decide +kernel) (by decide +kernel), _, rfl, r, .ref p, _, _, a, b, rfl, ⟨dr, upd_same⟩, .inl ⟨p, rfl, hS.ext sr⟩, nf1.pos, b0, bn.le nf1.le1, (one_bit 899).le nf1.le2, ba, bb, fun hc H' q sm hq => ?_, fun hc H' sm => k2 hc H' (sr.trans sm)⟩
    obtain ⟨dq, hq2⟩ := id hq
    have hg : Gov (nT n 1) (nB n 1) a b ≠ 0 := Int.mul_ne_zero (Int.ne_of_gt nf1.pos) hc
    have nf := nf_of (Fov (nT n 1) (nB n 1) a b) hg
    exact ⟨q, dq, _, rfl, hq2, shf_no _ _ (by decide +kernel) (by decide +kernel), q, _, _, rfl, hq, nf.pos, (((one_bit 899).le nf1.le2 |>.mul ba).le nf.le2).mono (by decide), k1 hc H' (sr.trans sm)⟩
end
end K4

set_option Elab.async false
set_option linter.all false
set_option maxRecDepth 100000
set_option maxHeartbeats 2000000
namespace K4
open PySem PySem.Spec PyProof.Rows L2 Vf
section
variable {P : Program} {w : World} {K : PySem.W.Frag} {mg : Str → Option Value} {base : Heap}
theorem nC_one (t : Int) : nC t 1 = 1 := by
  unfold nC nG
  rw [if_neg (by decide), show (1 : Int).natAbs = 1 from rfl, Nat.gcd_one_right]
  rfl
theorem nT_one (t : Int) : nT t 1 = t := by
  have h := nT_mul t 1
  rw [nC_one, Int.mul_one] at h
  exact h
theorem nB_one (t : Int) : nB t 1 = 1 := by
  have h := nB_mul t 1
  rw [nC_one, Int.mul_one] at h
  exact h
/-- + of a share and a share or an int, an int on either side -/
def rAd (K : PySem.W.Frag) : R2 := fun x y H Q => rOO (CS K) (spAr (CS K) Fad Gbd) E0 x y H Q ∨ (rOI (CS K) (spAr (CS K) Fad Gbd) E0 x y H Q ∨ rIO (CS K) (spRe (CS K) Fad Gbd) E0 x y H Q)
def rSu (K : PySem.W.Frag) : R2 := fun x y H Q => rOO (CS K) (spAr (CS K) Fsu Gbd) E0 x y H Q ∨ (rOI (CS K) (spAr (CS K) Fsu Gbd) E0 x y H Q ∨ rIO (CS K) (spRs (CS K)) E0 x y H Q)
def rMu (K : PySem.W.Frag) : R2 := fun x y H Q => rOO (CS K) (spAr (CS K) Fmu Gbd) E0 x y H Q ∨ (rOI (CS K) (spAr (CS K) Fmu Gbd) E0 x y H Q ∨ rIO (CS K) (spRe (CS K) Fmu Gbd) E0 x y H Q)
def rFd (K : PySem.W.Frag) (E : XK) : R2 := fun x y H Q => rOO (CS K) (spFd K) E x y H Q ∨ (rOI (CS K) (spFd K) E x y H Q ∨ rIO (CS K) (spRf K) E x y H Q)
section
variable {X : Cx} {j : Nat}
theorem op_Ad (T : STxt X.K X.mg) (M : SMeth X.K) (O : OkM X.prog X.w X.K X.mg X.base CX0 6 "__add__" ["self", "other"] (spAr (CS X.K) Fad Gbd)) (O' : OkM X.prog X.w X.K X.mg X.base CX0 7 "__radd__" ["self", "other"] (spRe (CS X.K) Fad Gbd)) (hr : Room j X.A) (hj : 7 ≤ j) : OpR X (binaryOp .Add) (rAd X.K) :=
  opr_or (op_oo rfl M.m_add T.hc O hr (by omega) pass0) (opr_or (op_oi rfl M.m_add T.hc M.m_radd.at_ (.inr ⟨_, rfl⟩) (int_add X.K) (int_radd X.K) T.hs O hr (by omega) pass0)
    (op_io rfl M.m_radd T.hc M.m_add.at_ T.hi PySem.F.fills_int_add PySem.F.slot_int_add PySem.F.entry_int_add PySem.F.args_int_add_2 (decl_bin _ _ _) O' hr hj pass0))
theorem op_Su (T : STxt X.K X.mg) (M : SMeth X.K) (O : OkM X.prog X.w X.K X.mg X.base CX0 6 "__sub__" ["self", "other"] (spAr (CS X.K) Fsu Gbd)) (O' : OkM X.prog X.w X.K X.mg X.base CX0 7 "__rsub__" ["self", "other"] (spRs (CS X.K))) (hr : Room j X.A) (hj : 7 ≤ j) : OpR X (binaryOp .Sub) (rSu X.K) :=
  opr_or (op_oo rfl M.m_sub T.hc O hr (by omega) pass0) (opr_or (op_oi rfl M.m_sub T.hc M.m_rsub.at_ (.inr ⟨_, rfl⟩) (int_sub X.K) (int_rsub X.K) T.hs O hr (by omega) pass0)
    (op_io rfl M.m_rsub T.hc M.m_sub.at_ T.hi PySem.F.fills_int_sub PySem.F.slot_int_sub PySem.F.entry_int_sub PySem.F.args_int_sub_2 (decl_bin _ _ _) O' hr hj pass0))
theorem op_Mu (T : STxt X.K X.mg) (M : SMeth X.K) (O : OkM X.prog X.w X.K X.mg X.base CX0 6 "__mul__" ["self", "other"] (spAr (CS X.K) Fmu Gbd)) (O' : OkM X.prog X.w X.K X.mg X.base CX0 7 "__rmul__" ["self", "other"] (spRe (CS X.K) Fmu Gbd)) (hr : Room j X.A) (hj : 7 ≤ j) : OpR X (binaryOp .Mult) (rMu X.K) :=
  opr_or (op_oo rfl M.m_mul T.hc O hr (by omega) pass0) (opr_or (op_oi rfl M.m_mul T.hc M.m_rmul.at_ (.inr ⟨_, rfl⟩) (int_mul X.K) (int_rmul X.K) T.hs O hr (by omega) pass0)
    (op_io rfl M.m_rmul T.hc M.m_mul.at_ T.hi PySem.F.fills_int_mul PySem.F.slot_int_mul PySem.F.entry_int_mul PySem.F.args_int_mul_2 (decl_bin _ _ _) O' hr hj pass0))
theorem op_Fd {E : XK} (T : STxt X.K X.mg) (M : SMeth X.K) (O : OkM X.prog X.w X.K X.mg X.base (L2.CX X.prog X.w) 7 "__floordiv__" ["self", "other"] (spFd X.K)) (O' : OkM X.prog X.w X.K X.mg X.base (L2.CX X.prog X.w) 7 "__rfloordiv__" ["self", "other"] (spRf X.K)) (hr : Room j X.A) (hj : 7 ≤ j) (hx : Passes (L2.CX X.prog X.w) X E) : OpR X (binaryOp .FloorDiv) (rFd X.K E) :=
  opr_or (op_oo rfl M.m_fdv T.hc O hr (by omega) hx) (opr_or (op_oi rfl M.m_fdv T.hc M.m_rfdv.at_ (.inr ⟨_, rfl⟩) (int_fdv X.K) (int_rfdv X.K) T.hs O hr (by omega) hx)
    (op_io rfl M.m_rfdv T.hc M.m_fdv.at_ T.hi PySem.F.fills_int_floordiv PySem.F.slot_int_floordiv PySem.F.entry_int_floordiv PySem.F.args_int_floordiv_2 decl_fdv O' hr hj hx))
end
/-- x is c over d, y is e over f, not two ints -/
structure Two (C : Addr) (H : Hp) (x y : V) (c d e f : Int) : Prop where
  nx : Nm C H x c d
  ny : Nm C H y e f
  o : (∃ p, x = .ref p) ∨ ∃ p, y = .ref p
  d0 : 0 < d
  f0 : 0 < f
  bc : Bit 440 c
  bd : Bit 440 d
  be : Bit 440 e
  bf : Bit 440 f
theorem Two.ext {C : Addr} {H H' : Hp} {x y : V} {c d e f : Int} (h : Two C H x y c d e f) (s : Same H H') : Two C H' x y c d e f := ⟨h.nx.ext s, h.ny.ext s, h.o, h.d0, h.f0, h.bc, h.bd, h.be, h.bf⟩
theorem Two.three {C : Addr} {H : Hp} {x y : V} {c d e f : Int} (h : Two C H x y c d e f) : (∃ p q dx dy, x = .ref p ∧ y = .ref q ∧ H p = some (.ins C dx (shf c d)) ∧ H q = some (.ins C dy (shf e f))) ∨ (∃ p dx, x = .ref p ∧ y = .int e ∧ f = 1 ∧ H p = some (.ins C dx (shf c d))) ∨ (∃ q dy, x = .int c ∧ d = 1 ∧ y = .ref q ∧ H q = some (.ins C dy (shf e f))) := by
  obtain ⟨hx, hy, ho, _⟩ := h
  rcases hx with ⟨p, rfl, dx, hp⟩ | ⟨rfl, rfl⟩
  · rcases hy with ⟨q, rfl, dy, hq⟩ | ⟨rfl, rfl⟩
    · exact .inl ⟨p, q, dx, dy, rfl, rfl, hp, hq⟩
    · exact .inr (.inl ⟨p, dx, rfl, rfl, rfl, hp⟩)
  · rcases hy with ⟨q, rfl, dy, hq⟩ | ⟨rfl, rfl⟩
    · exact .inr (.inr ⟨q, dy, rfl, rfl, rfl, hq⟩)
    · rcases ho with ⟨p, e⟩ | ⟨p, e⟩ <;> cases e
/-- a share that is t over u -/
structure Res (C : Addr) (H : Hp) (r : Addr) (t u : Int) (p q : Int) : Prop where
  sh : Sh C H r p q
  nf : Nf p q
  bp : Bit 890 p
  bq : Bit 890 q
  eq : p * u = t * q
theorem rd_add {H : Hp} {x y : V} {c d e f : Int} {Q : VK} (h : Two (CS K) H x y c d e f) (k : ∀ (H' : Hp) (r : Addr) (p q : Int), Same H H' → Res (CS K) H' r (c * f + e * d) (d * f) p q → Q (.ref r) H') : rAd K x y H Q := by
  have bF : Bit 890 (c * f + e * d) := ((h.bc.mul h.bf).add (h.be.mul h.bd)).mono (by decide)
  have bG : Bit 890 (d * f) := (h.bd.mul h.bf).mono (by decide)
  rcases h.three with ⟨p, q, dx, dy, rfl, rfl, hp, hq⟩ | ⟨p, dx, rfl, rfl, rfl, hp⟩ | ⟨q, dy, rfl, rfl, rfl, hq⟩
  · have nf := nf_of (Fad c d e f) (b := Gbd c d e f) (Int.ne_of_gt (Int.mul_pos h.d0 h.f0))
    exact .inl ⟨p, q, dx, dy, _, _, rfl, rfl, hp, hq, p, _, c, d, e, f, rfl, ⟨dx, hp⟩, .inl ⟨q, rfl, dy, hq⟩, h.d0, h.f0, h.bc.mono (by decide), h.bd.mono (by decide), h.be.mono (by decide), h.bf.mono (by decide), fun H' r sm hs => k H' r _ _ sm ⟨hs, nf.toNf, bF.le nf.le1, bG.le nf.le2, nf.eq⟩⟩
  · have nf := nf_of (Fad c d e 1) (b := Gbd c d e 1) (Int.ne_of_gt (Int.mul_pos h.d0 h.f0))
    exact .inr (.inl ⟨p, e, dx, _, rfl, rfl, hp, p, _, c, d, e, 1, rfl, ⟨dx, hp⟩, .inr ⟨rfl, rfl⟩, h.d0, h.f0, h.bc.mono (by decide), h.bd.mono (by decide), h.be.mono (by decide), h.bf.mono (by decide), fun H' r sm hs => k H' r _ _ sm ⟨hs, nf.toNf, bF.le nf.le1, bG.le nf.le2, nf.eq⟩⟩)
  · have nf := nf_of (Fad e f c 1) (b := Gbd e f c 1) (Int.ne_of_gt (Int.mul_pos h.f0 h.d0))
    have e1 : Fad e f c 1 = c * f + e * 1 := by unfold Fad; omega
    have e2 : Gbd e f c 1 = 1 * f := by unfold Gbd; omega
    have eq := nf.eq
    have l1 := nf.le1
    have l2 := nf.le2
    refine .inr (.inr ⟨c, q, dy, _, rfl, rfl, hq, q, c, e, f, rfl, ⟨dy, hq⟩, h.f0, h.be.mono (by decide), h.bf.mono (by decide), h.bc.mono (by decide), fun H' r sm hs => k H' r _ _ sm ⟨hs, nf.toNf, bF.le (by rw [← e1]; exact l1), bG.le (by rw [← e2]; exact l2), ?_⟩⟩)
    rw [← e1, ← e2]
    exact eq
theorem rd_mul {H : Hp} {x y : V} {c d e f : Int} {Q : VK} (h : Two (CS K) H x y c d e f) (k : ∀ (H' : Hp) (r : Addr) (p q : Int), Same H H' → Res (CS K) H' r (c * e) (d * f) p q → Q (.ref r) H') : rMu K x y H Q := by
  have bF : Bit 890 (c * e) := (h.bc.mul h.be).mono (by decide)
  have bG : Bit 890 (d * f) := (h.bd.mul h.bf).mono (by decide)
  rcases h.three with ⟨p, q, dx, dy, rfl, rfl, hp, hq⟩ | ⟨p, dx, rfl, rfl, rfl, hp⟩ | ⟨q, dy, rfl, rfl, rfl, hq⟩
  · have nf := nf_of (Fmu c d e f) (b := Gbd c d e f) (Int.ne_of_gt (Int.mul_pos h.d0 h.f0))
    exact .inl ⟨p, q, dx, dy, _, _, rfl, rfl, hp, hq, p, _, c, d, e, f, rfl, ⟨dx, hp⟩, .inl ⟨q, rfl, dy, hq⟩, h.d0, h.f0, h.bc.mono (by decide), h.bd.mono (by decide), h.be.mono (by decide), h.bf.mono (by decide), fun H' r sm hs => k H' r _ _ sm ⟨hs, nf.toNf, bF.le nf.le1, bG.le nf.le2, nf.eq⟩⟩
  · have nf := nf_of (Fmu c d e 1) (b := Gbd c d e 1) (Int.ne_of_gt (Int.mul_pos h.d0 h.f0))
    exact .inr (.inl ⟨p, e, dx, _, rfl, rfl, hp, p, _, c, d, e, 1, rfl, ⟨dx, hp⟩, .inr ⟨rfl, rfl⟩, h.d0, h.f0, h.bc.mono (by decide), h.bd.mono (by decide), h.be.mono (by decide), h.bf.mono (by decide), fun H' r sm hs => k H' r _ _ sm ⟨hs, nf.toNf, bF.le nf.le1, bG.le nf.le2, nf.eq⟩⟩)
  · have nf := nf_of (Fmu e f c 1) (b := Gbd e f c 1) (Int.ne_of_gt (Int.mul_pos h.f0 h.d0))
    have e1 : Fmu e f c 1 = c * e := Int.mul_comm _ _
    have e2 : Gbd e f c 1 = 1 * f := Int.mul_comm _ _
    have eq := nf.eq
    have l1 := nf.le1
    have l2 := nf.le2
    refine .inr (.inr ⟨c, q, dy, _, rfl, rfl, hq, q, c, e, f, rfl, ⟨dy, hq⟩, h.f0, h.be.mono (by decide), h.bf.mono (by decide), h.bc.mono (by decide), fun H' r sm hs => k H' r _ _ sm ⟨hs, nf.toNf, bF.le (by rw [← e1]; exact l1), bG.le (by rw [← e2]; exact l2), ?_⟩⟩)
    rw [← e1, ← e2]
    exact eq
theorem rd_sub {H : Hp} {x y : V} {c d e f : Int} {Q : VK} (h : Two (CS K) H x y c d e f) (k : ∀ (H' : Hp) (r : Addr) (p q : Int), Same H H' → Res (CS K) H' r (c * f - e * d) (d * f) p q → Q (.ref r) H') : rSu K x y H Q := by
  have bF : Bit 890 (c * f - e * d) := ((h.bc.mul h.bf).sub (h.be.mul h.bd)).mono (by decide)
  have bG : Bit 890 (d * f) := (h.bd.mul h.bf).mono (by decide)
  rcases h.three with ⟨p, q, dx, dy, rfl, rfl, hp, hq⟩ | ⟨p, dx, rfl, rfl, rfl, hp⟩ | ⟨q, dy, rfl, rfl, rfl, hq⟩
  · have nf := nf_of (Fsu c d e f) (b := Gbd c d e f) (Int.ne_of_gt (Int.mul_pos h.d0 h.f0))
    exact .inl ⟨p, q, dx, dy, _, _, rfl, rfl, hp, hq, p, _, c, d, e, f, rfl, ⟨dx, hp⟩, .inl ⟨q, rfl, dy, hq⟩, h.d0, h.f0, h.bc.mono (by decide), h.bd.mono (by decide), h.be.mono (by decide), h.bf.mono (by decide), fun H' r sm hs => k H' r _ _ sm ⟨hs, nf.toNf, bF.le nf.le1, bG.le nf.le2, nf.eq⟩⟩
  · have nf := nf_of (Fsu c d e 1) (b := Gbd c d e 1) (Int.ne_of_gt (Int.mul_pos h.d0 h.f0))
    exact .inr (.inl ⟨p, e, dx, _, rfl, rfl, hp, p, _, c, d, e, 1, rfl, ⟨dx, hp⟩, .inr ⟨rfl, rfl⟩, h.d0, h.f0, h.bc.mono (by decide), h.bd.mono (by decide), h.be.mono (by decide), h.bf.mono (by decide), fun H' r sm hs => k H' r _ _ sm ⟨hs, nf.toNf, bF.le nf.le1, bG.le nf.le2, nf.eq⟩⟩)
  · have n1 := nf_of (-e) (b := f) (Int.ne_of_gt h.f0)
    have nf := nf_of (Fad (nT (-e) f) (nB (-e) f) c 1) (b := Gbd (nT (-e) f) (nB (-e) f) c 1) (Int.ne_of_gt (Int.mul_pos n1.pos (by decide)))
    have b1 : Bit 440 (nT (-e) f) := h.be.neg.le n1.le1
    have b2 : Bit 440 (nB (-e) f) := h.bf.le n1.le2
    have one : Bit 440 1 := one_bit 439
    have bF1 : Bit 890 (Fad (nT (-e) f) (nB (-e) f) c 1) := ((b1.mul one).add (h.bc.mul b2)).mono (by decide)
    have bG1 : Bit 890 (Gbd (nT (-e) f) (nB (-e) f) c 1) := (b2.mul one).mono (by decide)
    refine .inr (.inr ⟨c, q, dy, _, rfl, rfl, hq, q, c, e, f, rfl, ⟨dy, hq⟩, h.f0, h.be.mono (by decide), h.bf.mono (by decide), h.bc.mono (by decide), fun H' r sm hs => k H' r _ _ sm ⟨hs, nf.toNf, bF1.le nf.le1, bG1.le nf.le2, ?_⟩⟩)
    have g1 := n1.eq
    have g2 := nf.eq
    have g3 := n1.pos
    unfold Fad Gbd at g2 ⊢
    generalize nT (-e) f = s at g1 g2 ⊢
    generalize nB (-e) f = t at g1 g2 g3 ⊢
    generalize nT (s * 1 + c * t) (t * 1) = p at g2 ⊢
    generalize nB (s * 1 + c * t) (t * 1) = r at g2 ⊢
    have hh : t * (p * (1 * f)) = t * ((c * f - e * 1) * r) := by grind
    exact Int.eq_of_mul_eq_mul_left (Int.ne_of_gt g3) hh
theorem rd_fd {H : Hp} {x y : V} {c d e f : Int} {Q : VK} {E : XK} (h : Two (CS K) H x y c d e f) (k : e ≠ 0 → ∀ (H' : Hp) (p q : Int), Same H H' → 0 < q → p * (d * e) = (c * f) * q → Q (.int (p / q)) H') (kE : e = 0 → ∀ H', Same H H' → E (.ref (CN K)) none H') : rFd K E x y H Q := by
  rcases h.three with ⟨p, q, dx, dy, rfl, rfl, hp, hq⟩ | ⟨p, dx, rfl, rfl, rfl, hp⟩ | ⟨q, dy, rfl, rfl, rfl, hq⟩
  · refine .inl ⟨p, q, dx, dy, _, _, rfl, rfl, hp, hq, p, _, c, d, e, f, rfl, ⟨dx, hp⟩, .inl ⟨q, rfl, dy, hq⟩, h.d0, h.f0, h.bc.mono (by decide), h.bd.mono (by decide), h.be.mono (by decide), h.bf.mono (by decide), fun he H' sm => ?_, kE⟩
    have nf := nf_of (Fov c d e f) (b := Gov c d e f) (Int.mul_ne_zero (Int.ne_of_gt h.d0) he)
    exact k he H' _ _ sm nf.pos nf.eq
  · refine .inr (.inl ⟨p, e, dx, _, rfl, rfl, hp, p, _, c, d, e, 1, rfl, ⟨dx, hp⟩, .inr ⟨rfl, rfl⟩, h.d0, h.f0, h.bc.mono (by decide), h.bd.mono (by decide), h.be.mono (by decide), h.bf.mono (by decide), fun he H' sm => ?_, kE⟩)
    have nf := nf_of (Fov c d e 1) (b := Gov c d e 1) (Int.mul_ne_zero (Int.ne_of_gt h.d0) he)
    exact k he H' _ _ sm nf.pos nf.eq
  · refine .inr (.inr ⟨c, q, dy, _, rfl, rfl, hq, q, c, e, f, rfl, ⟨dy, hq⟩, h.f0, h.be.mono (by decide), h.bf.mono (by decide), h.bc.mono (by decide), fun he H' sm => ?_, kE⟩)
    rw [nT_one, nB_one]
    have nf := nf_of (Fov c 1 e f) (b := Gov c 1 e f) (Int.mul_ne_zero (by decide) he)
    exact k he H' _ _ sm nf.pos nf.eq
/-- the floor of one value, however it is written -/
theorem floor_eq {p q t u : Int} (hq : 0 < q) (hu : u ≠ 0) (h : p * u = t * q) : p / q = t.fdiv u := by
  rcases (show 0 < u ∨ u < 0 by omega) with h0 | h0
  · rw [Int.fdiv_eq_ediv_of_nonneg t (by omega), ← Int.mul_ediv_mul_of_pos_left p q h0, h, Int.mul_comm t q, Int.mul_ediv_mul_of_pos t u hq]
  · have h1 : t.fdiv u = (-t).fdiv (-u) := (Int.neg_fdiv_neg t u).symm
    have h2 : p * (-u) = (-t) * q := by rw [Int.mul_neg, Int.neg_mul, h]
    rw [h1, Int.fdiv_eq_ediv_of_nonneg (-t) (by omega), ← Int.mul_ediv_mul_of_pos_left p q (show 0 < -u by omega), h2, Int.mul_comm (-t) q, Int.mul_ediv_mul_of_pos (-t) (-u) hq]
end
end K4

set_option Elab.async false
set_option linter.all false
set_option maxRecDepth 100000
set_option maxHeartbeats 2000000
namespace K4
open PySem PySem.Spec PyProof.Rows L2 Vf
section
variable {P : Program} {w : World} {K : PySem.W.Frag} {mg : Str → Option Value} {base : Heap}
structure CMeth (K : PySem.W.Frag) : Prop where
  m_eq : Meth K (He.ga K "Share") "__eq__" (He.fAd K ("Share", some "__eq__"))
  m_ne : Meth K (He.ga K "Share") "__ne__" (He.fAd K ("Share", some "__ne__"))
  m_lt : Meth K (He.ga K "Share") "__lt__" (He.fAd K ("Share", some "__lt__"))
  m_le : Meth K (He.ga K "Share") "__le__" (He.fAd K ("Share", some "__le__"))
  m_gt : Meth K (He.ga K "Share") "__gt__" (He.fAd K ("Share", some "__gt__"))
  m_ge : Meth K (He.ga K "Share") "__ge__" (He.fAd K ("Share", some "__ge__"))
  km : ∀ n ∈ oddK, PySem.W.mroIn K (He.ga K "Share") (.type n) = some false
/-- self a over b, other c over d -/
def spCm (C : Addr) (f : Int → Int → Int → Int → Bool) : Sp := fun vs H Q _ => ∃ (p : Addr) (y : V) (a b c d : Int), vs = [.ref p, y] ∧ Sh C H p a b ∧ Nm C H y c d ∧ Bit 900 a ∧ Bit 900 b ∧ Bit 900 c ∧ Bit 900 d ∧
  ∀ H' : Hp, Same H H' → Q (.bl (f a b c d)) H'
def fLt (a b c d : Int) : Bool := decide (a * d < c * b)
def fLe (a b c d : Int) : Bool := decide (a * d ≤ c * b)
def fGt (a b c d : Int) : Bool := decide (c * b < a * d)
def fGe (a b c d : Int) : Bool := decide (c * b ≤ a * d)
def fEq (a b c d : Int) : Bool := decide (a = c) && decide (b = d)
/-- self a over b, other a number or not -/
def spEqs (C : Addr) (f : Bool → Bool) : Sp := fun vs H Q _ => ∃ (p : Addr) (y : V) (a b : Int), vs = [.ref p, y] ∧ Sh C H p a b ∧
  ((∃ c d, Nm C H y c d ∧ ∀ H' : Hp, Same H H' → Q (.bl (f (fEq a b c d))) H') ∨ (Odd H y ∧ Q (.bl (f false)) H))
theorem int_dec (a c : Int) : decide (V.int a = V.int c) = decide (a = c) := decide_eq_decide.mpr ⟨fun h => V.int.inj h, fun h => by rw [h]⟩
abbrev s_Share_lt : Stmt := inClass (top 8) 13
theorem sc_Share_lt : FnScope ["self", "other", "top", "bottom"] ["self", "other"] (defScope s_Share_lt) := ⟨rfl, rfl, rfl, by decide +kernel, rfl, by decide +kernel, by decide +kernel⟩
-- slots: 0 self, 1 other, 2 top, 3 bottom
theorem ok_Share_lt {fd : FuncData} (F : FnD K ("Share", some "__lt__") "__lt__" "Share.__lt__" s_Share_lt fd) (T : STxt K mg) (O_is_number : OkF P w K mg base CX0 2 "is_number" ["x"] (spIsNum (CS K))) (O_parts : OkF P w K mg base CX0 1 "parts" ["number"] (spParts (CS K))) : OkM P w K mg base CX0 3 "__lt__" ["self", "other"] (spCm (CS K) fLt) := by
  refine okd F (F.ok sc_Share_lt (fun vs H Q E h => ?_) fun cdv A outer s H vs Q E hr h => ?_) fun _ _ _ _ _ _ us hl => match us, hl with | [_, _], _ => rfl
  · obtain ⟨p, y, a, b, c, d, rfl, _⟩ := h
    rfl
  · obtain ⟨p, y, a, b, c, d, rfl, ⟨dx, hp⟩, hN, ba, bb, bc, bd, k⟩ := h
    have ft := shf_top a b
    have fb := shf_bottom a b
    refine ⟨_, PSs.nox (pss_cons (ps_if (pt_not (pt_val (c_fn O_is_number hr (by decide) T.g_is_number pass0 (pa_cons (pv 1) pa_nil)))) (pss_one ps_never)
  pss_nil)
  (pss_cons (ps_asg (c_fn O_parts hr (by decide) T.g_parts pass0 (pa_cons (pv 1) pa_nil)) (pg_tup rfl (pgs_cons (pg_name (i := 2) sc_Share_lt.nd rfl (Or.inl rfl)) (pgs_cons (pg_name (i := 3) sc_Share_lt.nd rfl (Or.inl rfl)) pgs_nil))))
  (pss_one (ps_ret (pe_cmpR op_lt (pe_op op_mulW (pe_fld (pv 0) rfl) (pv 3)) (pe_op op_mulW (pv 2) (pe_fld (pv 0) rfl)) (nomark _)))))), ?_⟩
    refine ⟨_, rfl, y, rfl, .inl ⟨⟨c, d, hN⟩, true, rfl, iteF ?_⟩⟩
    refine ⟨_, rfl, y, c, d, rfl, hN, fun t nt => ?_⟩
    have st := same_new (o := .tup [.int c, .int d]) nt
    have hp' := st _ _ hp
    refine ⟨t, _, rfl, SqT.of upd_same, rfl, _, _, rfl, _, _, rfl, rfl, ?_⟩
    refine ⟨_, rfl, p, _, dx, _, _, rfl, hp', T.c_Share, T.nT, ft, _, rfl, a, d, rfl, rfl, ba.wm bd (by decide) (by decide) (by decide), _, rfl, _, rfl, p, _, dx, _, _, rfl, hp', T.c_Share, T.nB, fb, c, b, rfl, rfl, bc.wm bb (by decide) (by decide) (by decide), ?_⟩
    exact ⟨_, _, rfl, rfl, k _ st⟩
abbrev s_Share_le : Stmt := inClass (top 8) 14
theorem sc_Share_le : FnScope ["self", "other", "top", "bottom"] ["self", "other"] (defScope s_Share_le) := ⟨rfl, rfl, rfl, by decide +kernel, rfl, by decide +kernel, by decide +kernel⟩
-- slots: 0 self, 1 other, 2 top, 3 bottom
theorem ok_Share_le {fd : FuncData} (F : FnD K ("Share", some "__le__") "__le__" "Share.__le__" s_Share_le fd) (T : STxt K mg) (O_is_number : OkF P w K mg base CX0 2 "is_number" ["x"] (spIsNum (CS K))) (O_parts : OkF P w K mg base CX0 1 "parts" ["number"] (spParts (CS K))) : OkM P w K mg base CX0 3 "__le__" ["self", "other"] (spCm (CS K) fLe) := by
  refine okd F (F.ok sc_Share_le (fun vs H Q E h => ?_) fun cdv A outer s H vs Q E hr h => ?_) fun _ _ _ _ _ _ us hl => match us, hl with | [_, _], _ => rfl
  · obtain ⟨p, y, a, b, c, d, rfl, _⟩ := h
    rfl
  · obtain ⟨p, y, a, b, c, d, rfl, ⟨dx, hp⟩, hN, ba, bb, bc, bd, k⟩ := h
    have ft := shf_top a b
    have fb := shf_bottom a b
    refine ⟨_, PSs.nox (pss_cons (ps_if (pt_not (pt_val (c_fn O_is_number hr (by decide) T.g_is_number pass0 (pa_cons (pv 1) pa_nil)))) (pss_one ps_never)
  pss_nil)
  (pss_cons (ps_asg (c_fn O_parts hr (by decide) T.g_parts pass0 (pa_cons (pv 1) pa_nil)) (pg_tup rfl (pgs_cons (pg_name (i := 2) sc_Share_le.nd rfl (Or.inl rfl)) (pgs_cons (pg_name (i := 3) sc_Share_le.nd rfl (Or.inl rfl)) pgs_nil))))
  (pss_one (ps_ret (pe_cmpR op_le (pe_op op_mulW (pe_fld (pv 0) rfl) (pv 3)) (pe_op op_mulW (pv 2) (pe_fld (pv 0) rfl)) (nomark _)))))), ?_⟩
    refine ⟨_, rfl, y, rfl, .inl ⟨⟨c, d, hN⟩, true, rfl, iteF ?_⟩⟩
    refine ⟨_, rfl, y, c, d, rfl, hN, fun t nt => ?_⟩
    have st := same_new (o := .tup [.int c, .int d]) nt
    have hp' := st _ _ hp
    refine ⟨t, _, rfl, SqT.of upd_same, rfl, _, _, rfl, _, _, rfl, rfl, ?_⟩
    refine ⟨_, rfl, p, _, dx, _, _, rfl, hp', T.c_Share, T.nT, ft, _, rfl, a, d, rfl, rfl, ba.wm bd (by decide) (by decide) (by decide), _, rfl, _, rfl, p, _, dx, _, _, rfl, hp', T.c_Share, T.nB, fb, c, b, rfl, rfl, bc.wm bb (by decide) (by decide) (by decide), ?_⟩
    exact ⟨_, _, rfl, rfl, k _ st⟩
abbrev s_Share_gt : Stmt := inClass (top 8) 15
theorem sc_Share_gt : FnScope ["self", "other", "top", "bottom"] ["self", "other"] (defScope s_Share_gt) := ⟨rfl, rfl, rfl, by decide +kernel, rfl, by decide +kernel, by decide +kernel⟩
-- slots: 0 self, 1 other, 2 top, 3 bottom
theorem ok_Share_gt {fd : FuncData} (F : FnD K ("Share", some "__gt__") "__gt__" "Share.__gt__" s_Share_gt fd) (T : STxt K mg) (O_is_number : OkF P w K mg base CX0 2 "is_number" ["x"] (spIsNum (CS K))) (O_parts : OkF P w K mg base CX0 1 "parts" ["number"] (spParts (CS K))) : OkM P w K mg base CX0 3 "__gt__" ["self", "other"] (spCm (CS K) fGt) := by
  refine okd F (F.ok sc_Share_gt (fun vs H Q E h => ?_) fun cdv A outer s H vs Q E hr h => ?_) fun _ _ _ _ _ _ us hl => match us, hl with | [_, _], _ => rfl
  · obtain ⟨p, y, a, b, c, d, rfl, _⟩ := h
    rfl
  · obtain ⟨p, y, a, b, c, d, rfl, ⟨dx, hp⟩, hN, ba, bb, bc, bd, k⟩ := h
    have ft := shf_top a b
    have fb := shf_bottom a b
    refine ⟨_, PSs.nox (pss_cons (ps_if (pt_not (pt_val (c_fn O_is_number hr (by decide) T.g_is_number pass0 (pa_cons (pv 1) pa_nil)))) (pss_one ps_never)
  pss_nil)
  (pss_cons (ps_asg (c_fn O_parts hr (by decide) T.g_parts pass0 (pa_cons (pv 1) pa_nil)) (pg_tup rfl (pgs_cons (pg_name (i := 2) sc_Share_gt.nd rfl (Or.inl rfl)) (pgs_cons (pg_name (i := 3) sc_Share_gt.nd rfl (Or.inl rfl)) pgs_nil))))
  (pss_one (ps_ret (pe_cmpR op_gt (pe_op op_mulW (pe_fld (pv 0) rfl) (pv 3)) (pe_op op_mulW (pv 2) (pe_fld (pv 0) rfl)) (nomark _)))))), ?_⟩
    refine ⟨_, rfl, y, rfl, .inl ⟨⟨c, d, hN⟩, true, rfl, iteF ?_⟩⟩
    refine ⟨_, rfl, y, c, d, rfl, hN, fun t nt => ?_⟩
    have st := same_new (o := .tup [.int c, .int d]) nt
    have hp' := st _ _ hp
    refine ⟨t, _, rfl, SqT.of upd_same, rfl, _, _, rfl, _, _, rfl, rfl, ?_⟩
    refine ⟨_, rfl, p, _, dx, _, _, rfl, hp', T.c_Share, T.nT, ft, _, rfl, a, d, rfl, rfl, ba.wm bd (by decide) (by decide) (by decide), _, rfl, _, rfl, p, _, dx, _, _, rfl, hp', T.c_Share, T.nB, fb, c, b, rfl, rfl, bc.wm bb (by decide) (by decide) (by decide), ?_⟩
    exact ⟨_, _, rfl, rfl, k _ st⟩
abbrev s_Share_ge : Stmt := inClass (top 8) 16
theorem sc_Share_ge : FnScope ["self", "other", "top", "bottom"] ["self", "other"] (defScope s_Share_ge) := ⟨rfl, rfl, rfl, by decide +kernel, rfl, by decide +kernel, by decide +kernel⟩
-- slots: 0 self, 1 other, 2 top, 3 bottom
theorem ok_Share_ge {fd : FuncData} (F : FnD K ("Share", some "__ge__") "__ge__" "Share.__ge__" s_Share_ge fd) (T : STxt K mg) (O_is_number : OkF P w K mg base CX0 2 "is_number" ["x"] (spIsNum (CS K))) (O_parts : OkF P w K mg base CX0 1 "parts" ["number"] (spParts (CS K))) : OkM P w K mg base CX0 3 "__ge__" ["self", "other"] (spCm (CS K) fGe) := by
  refine okd F (F.ok sc_Share_ge (fun vs H Q E h => ?_) fun cdv A outer s H vs Q E hr h => ?_) fun _ _ _ _ _ _ us hl => match us, hl with | [_, _], _ => rfl
  · obtain ⟨p, y, a, b, c, d, rfl, _⟩ := h
    rfl
  · obtain ⟨p, y, a, b, c, d, rfl, ⟨dx, hp⟩, hN, ba, bb, bc, bd, k⟩ := h
    have ft := shf_top a b
    have fb := shf_bottom a b
    refine ⟨_, PSs.nox (pss_cons (ps_if (pt_not (pt_val (c_fn O_is_number hr (by decide) T.g_is_number pass0 (pa_cons (pv 1) pa_nil)))) (pss_one ps_never)
  pss_nil)
  (pss_cons (ps_asg (c_fn O_parts hr (by decide) T.g_parts pass0 (pa_cons (pv 1) pa_nil)) (pg_tup rfl (pgs_cons (pg_name (i := 2) sc_Share_ge.nd rfl (Or.inl rfl)) (pgs_cons (pg_name (i := 3) sc_Share_ge.nd rfl (Or.inl rfl)) pgs_nil))))
  (pss_one (ps_ret (pe_cmpR op_ge (pe_op op_mulW (pe_fld (pv 0) rfl) (pv 3)) (pe_op op_mulW (pv 2) (pe_fld (pv 0) rfl)) (nomark _)))))), ?_⟩
    refine ⟨_, rfl, y, rfl, .inl ⟨⟨c, d, hN⟩, true, rfl, iteF ?_⟩⟩
    refine ⟨_, rfl, y, c, d, rfl, hN, fun t nt => ?_⟩
    have st := same_new (o := .tup [.int c, .int d]) nt
    have hp' := st _ _ hp
    refine ⟨t, _, rfl, SqT.of upd_same, rfl, _, _, rfl, _, _, rfl, rfl, ?_⟩
    refine ⟨_, rfl, p, _, dx, _, _, rfl, hp', T.c_Share, T.nT, ft, _, rfl, a, d, rfl, rfl, ba.wm bd (by decide) (by decide) (by decide), _, rfl, _, rfl, p, _, dx, _, _, rfl, hp', T.c_Share, T.nB, fb, c, b, rfl, rfl, bc.wm bb (by decide) (by decide) (by decide), ?_⟩
    exact ⟨_, _, rfl, rfl, k _ st⟩
abbrev s_Share_eq : Stmt := inClass (top 8) 11
theorem sc_Share_eq : FnScope ["self", "other", "top", "bottom"] ["self", "other"] (defScope s_Share_eq) := ⟨rfl, rfl, rfl, by decide +kernel, rfl, by decide +kernel, by decide +kernel⟩
-- slots: 0 self, 1 other, 2 top, 3 bottom
theorem ok_Share_eq {fd : FuncData} (F : FnD K ("Share", some "__eq__") "__eq__" "Share.__eq__" s_Share_eq fd) (T : STxt K mg) (O_is_number : OkF P w K mg base CX0 2 "is_number" ["x"] (spIsNum (CS K))) (O_parts : OkF P w K mg base CX0 1 "parts" ["number"] (spParts (CS K))) : OkM P w K mg base CX0 3 "__eq__" ["self", "other"] (spEqs (CS K) id) := by
  refine okd F (F.ok sc_Share_eq (fun vs H Q E h => ?_) fun cdv A outer s H vs Q E hr h => ?_) fun _ _ _ _ _ _ us hl => match us, hl with | [_, _], _ => rfl
  · obtain ⟨p, y, a, b, rfl, _⟩ := h
    rfl
  · obtain ⟨p, y, a, b, rfl, ⟨dx, hp⟩, h⟩ := h
    have ft := shf_top a b
    have fb := shf_bottom a b
    refine ⟨_, PSs.nox (pss_cons (ps_if (pt_not (pt_val (c_fn O_is_number hr (by decide) T.g_is_number pass0 (pa_cons (pv 1) pa_nil)))) (pss_one (ps_ret pe_bl))
  pss_nil)
  (pss_cons (ps_asg (c_fn O_parts hr (by decide) T.g_parts pass0 (pa_cons (pv 1) pa_nil)) (pg_tup rfl (pgs_cons (pg_name (i := 2) sc_Share_eq.nd rfl (Or.inl rfl)) (pgs_cons (pg_name (i := 3) sc_Share_eq.nd rfl (Or.inl rfl)) pgs_nil))))
  (pss_one (ps_ret (pe_and (pe_cmpR op_eq (pe_fld (pv 0) rfl) (pv 2) (nomark _)) (pe_one (pe_cmpR op_eq (pe_fld (pv 0) rfl) (pv 3) (nomark _)))))))), ?_⟩
    rcases h with ⟨c, d, hN, k⟩ | ⟨o, q⟩
    · refine ⟨_, rfl, y, rfl, .inl ⟨⟨c, d, hN⟩, true, rfl, iteF ?_⟩⟩
      refine ⟨_, rfl, y, c, d, rfl, hN, fun t nt => ?_⟩
      have st := same_new (o := .tup [.int c, .int d]) nt
      have hp' := st _ _ hp
      refine ⟨t, _, rfl, SqT.of upd_same, rfl, _, _, rfl, _, _, rfl, rfl, ?_⟩
      have k' := k _ st
      refine ⟨_, rfl, p, _, dx, _, _, rfl, hp', T.c_Share, T.nT, ft, _, rfl, rfl, ?_⟩
      unfold fEq at k'
      rw [← int_dec, ← int_dec] at k'
      refine ⟨_, rfl, ?_⟩
      cases hq : decide (V.int a = V.int c) with
      | false =>
        rw [hq] at k'
        exact iteF k'
      | true =>
        rw [hq] at k'
        exact iteT ⟨_, rfl, p, _, dx, _, _, rfl, hp', T.c_Share, T.nB, fb, _, rfl, rfl, k'⟩
    · exact ⟨_, rfl, y, rfl, .inr ⟨o, false, rfl, iteT q⟩⟩
/-- o == y and o != y for an own o: y a share, an int or an odd value -/
def rEqs (C : Addr) (f : Bool → Bool) : R2 := fun x y H Q => rOO C (spEqs C f) E0 x y H Q ∨ (rOI C (spEqs C f) E0 x y H Q ∨ rOD C (spEqs C f) E0 x y H Q)
theorem op_Eqs {X : Cx} {j : Nat} (T : STxt X.K X.mg) (M : CMeth X.K) (O : OkM X.prog X.w X.K X.mg X.base CX0 3 "__eq__" ["self", "other"] (spEqs (CS X.K) id)) (hr : Room j X.A) (hj : 3 ≤ j) : OpR X (compareOp .Eq) (rEqs (CS X.K) id) :=
  opr_or (cmp_oo rfl rfl M.m_eq O hr hj pass0) (opr_or (cmp_oi rfl rfl M.m_eq T.hs O hr hj pass0) (cmp_od rfl rfl M.m_eq O hr hj pass0))
theorem rd_eqs {H : Hp} {p : Addr} {y : V} {a b : Int} {f : Bool → Bool} {Q : VK} (hp : Sh (CS K) H p a b) (h : (∃ c d, Nm (CS K) H y c d ∧ ∀ H' : Hp, Same H H' → Q (.bl (f (fEq a b c d))) H') ∨ (Odd H y ∧ Q (.bl (f false)) H)) : rEqs (CS K) f (.ref p) y H Q := by
  obtain ⟨dx, hq⟩ := id hp
  rcases h with ⟨c, d, hN, k⟩ | ⟨o, q⟩
  · rcases id hN with ⟨p', rfl, dx', hp'⟩ | ⟨rfl, rfl⟩
    · exact .inl ⟨p, p', dx, dx', _, _, rfl, rfl, hq, hp', p, _, a, b, rfl, hp, .inl ⟨c, d, hN, k⟩⟩
    · exact .inr (.inl ⟨p, c, dx, _, rfl, rfl, hq, p, _, a, b, rfl, hp, .inl ⟨c, 1, hN, k⟩⟩)
  · exact .inr (.inr ⟨p, dx, _, rfl, hq, o, p, _, a, b, rfl, hp, .inr ⟨o, q⟩⟩)
abbrev s_Share_ne : Stmt := inClass (top 8) 12
theorem sc_Share_ne : FnScope ["self", "other"] ["self", "other"] (defScope s_Share_ne) := ⟨rfl, rfl, rfl, by decide +kernel, rfl, by decide +kernel, by decide +kernel⟩
-- slots: 0 self, 1 other
theorem ok_Share_ne {fd : FuncData} (F : FnD K ("Share", some "__ne__") "__ne__" "Share.__ne__" s_Share_ne fd) (T : STxt K mg) (M : CMeth K) (O_eq : OkM P w K mg base CX0 3 "__eq__" ["self", "other"] (spEqs (CS K) id)) : OkM P w K mg base CX0 4 "__ne__" ["self", "other"] (spEqs (CS K) not) := by
  refine okd F (F.ok sc_Share_ne (fun vs H Q E h => ?_) fun cdv A outer s H vs Q E hr h => ?_) fun _ _ _ _ _ _ us hl => match us, hl with | [_, _], _ => rfl
  · obtain ⟨p, y, a, b, rfl, _⟩ := h
    rfl
  · obtain ⟨p, y, a, b, rfl, hs, h⟩ := h
    refine ⟨_, PSs.nox (pss_one (ps_ret (pe_not (pe_cmpR (op_Eqs T M O_eq hr (by decide)) (pv 0) (pv 1) (nomark _))))), ?_⟩
    refine ⟨_, rfl, _, rfl, rd_eqs hs ?_⟩
    rcases h with ⟨c, d, hN, k⟩ | ⟨o, q⟩
    · exact .inl ⟨c, d, hN, fun H' s => ⟨_, rfl, k H' s⟩⟩
    · exact .inr ⟨o, ⟨_, rfl, q⟩⟩
theorem fEq_symm (a b c d : Int) : fEq a b c d = fEq c d a b := by
  unfold fEq
  rw [show decide (a = c) = decide (c = a) from decide_eq_decide.mpr ⟨Eq.symm, Eq.symm⟩, show decide (b = d) = decide (d = b) from decide_eq_decide.mpr ⟨Eq.symm, Eq.symm⟩]
def rEqW (K : PySem.W.Frag) : R2 := fun x y H Q => rEqs (CS K) id x y H Q ∨ (rIO (CS K) (spEqs (CS K) id) E0 x y H Q ∨ rDO (CS K) (spEqs (CS K) id) E0 x y H Q)
def rNeW (K : PySem.W.Frag) : R2 := fun x y H Q => rEqs (CS K) not x y H Q ∨ rIO (CS K) (spEqs (CS K) not) E0 x y H Q
section
variable {X : Cx} {j : Nat}
theorem op_EqW (T : STxt X.K X.mg) (M : CMeth X.K) (O : OkM X.prog X.w X.K X.mg X.base CX0 3 "__eq__" ["self", "other"] (spEqs (CS X.K) id)) (hr : Room j X.A) (hj : 3 ≤ j) : OpR X (compareOp .Eq) (rEqW X.K) :=
  opr_or (op_Eqs T M O hr hj) (opr_or (cmp_io rfl rfl M.m_eq T.hi PySem.F.slot_int_eq PySem.F.entry_int_eq PySem.F.args_int_eq_2 (decl_bin _ _ _) O hr hj pass0) (eq_do M.m_eq M.km O hr hj pass0))
theorem op_NeW (T : STxt X.K X.mg) (M : CMeth X.K) (O : OkM X.prog X.w X.K X.mg X.base CX0 4 "__ne__" ["self", "other"] (spEqs (CS X.K) not)) (hr : Room j X.A) (hj : 4 ≤ j) : OpR X (compareOp .NotEq) (rNeW X.K) :=
  opr_or (opr_or (cmp_oo rfl rfl M.m_ne O hr hj pass0) (opr_or (cmp_oi rfl rfl M.m_ne T.hs O hr hj pass0) (cmp_od rfl rfl M.m_ne O hr hj pass0))) (cmp_io rfl rfl M.m_ne T.hi PySem.F.slot_int_ne PySem.F.entry_int_ne PySem.F.args_int_ne_2 (decl_bin _ _ _) O hr hj pass0)
end
theorem rd_eq {H : Hp} {x y : V} {c d e f : Int} {Q : VK} (h : Two (CS K) H x y c d e f) (k : ∀ H' : Hp, Same H H' → Q (.bl (fEq c d e f)) H') : rEqW K x y H Q := by
  rcases h.three with ⟨p, q, dx, dy, rfl, rfl, hp, hq⟩ | ⟨p, dx, rfl, rfl, rfl, hp⟩ | ⟨q, dy, rfl, rfl, rfl, hq⟩
  · exact .inl (rd_eqs ⟨dx, hp⟩ (.inl ⟨e, f, .inl ⟨q, rfl, dy, hq⟩, k⟩))
  · exact .inl (rd_eqs ⟨dx, hp⟩ (.inl ⟨e, 1, .inr ⟨rfl, rfl⟩, k⟩))
  · refine .inr (.inl ⟨c, q, dy, _, rfl, rfl, hq, q, _, e, f, rfl, ⟨dy, hq⟩, .inl ⟨c, 1, .inr ⟨rfl, rfl⟩, fun H' s => ?_⟩⟩)
    show Q (.bl (fEq e f c 1)) H'
    rw [fEq_symm]
    exact k H' s
theorem rd_ne {H : Hp} {x y : V} {c d e f : Int} {Q : VK} (h : Two (CS K) H x y c d e f) (k : ∀ H' : Hp, Same H H' → Q (.bl (!fEq c d e f)) H') : rNeW K x y H Q := by
  rcases h.three with ⟨p, q, dx, dy, rfl, rfl, hp, hq⟩ | ⟨p, dx, rfl, rfl, rfl, hp⟩ | ⟨q, dy, rfl, rfl, rfl, hq⟩
  · exact .inl (rd_eqs ⟨dx, hp⟩ (.inl ⟨e, f, .inl ⟨q, rfl, dy, hq⟩, k⟩))
  · exact .inl (rd_eqs ⟨dx, hp⟩ (.inl ⟨e, 1, .inr ⟨rfl, rfl⟩, k⟩))
  · refine .inr ⟨c, q, dy, _, rfl, rfl, hq, q, _, e, f, rfl, ⟨dy, hq⟩, .inl ⟨c, 1, .inr ⟨rfl, rfl⟩, fun H' s => ?_⟩⟩
    show Q (.bl (!fEq e f c 1)) H'
    rw [fEq_symm]
    exact k H' s
end
end K4

set_option Elab.async false
set_option linter.all false
set_option maxRecDepth 100000
set_option maxHeartbeats 2000000
namespace K4
open PySem PySem.Spec PyProof.Rows L2 Vf
section
variable {P : Program} {w : World} {K : PySem.W.Frag} {mg : Str → Option Value} {base : Heap}
structure Txt (K : PySem.W.Frag) (mg : Str → Option Value) : Prop extends STxt K mg where
  z_len : mg "len" = none
  z_range : mg "range" = none
  z_sum : mg "sum" = none
  g_law_cell : mg "_law_cell" = some (.ref (He.ga K "_law_cell"))
  g_law_is_integer : mg "_law_is_integer" = some (.ref (He.ga K "_law_is_integer"))
  g_law_gcd : mg "_law_gcd" = some (.ref (He.ga K "_law_gcd"))
  g_law_is_share : mg "_law_is_share" = some (.ref (He.ga K "_law_is_share"))
  g_law_part : mg "_law_part" = some (.ref (He.ga K "_law_part"))
abbrev s_law_is_integer : Stmt := top 14
theorem sc_law_is_integer : FnScope ["_law_value"] ["_law_value"] (defScope s_law_is_integer) := ⟨rfl, rfl, rfl, by decide +kernel, rfl, by decide +kernel, by decide +kernel⟩
-- slots: 0 _law_value
theorem ok_law_is_integer {fd : FuncData} (F : FnD K ("_law_is_integer", none) "_law_is_integer" "_law_is_integer" s_law_is_integer fd) (T : Txt K mg) : OkF P w K mg base CX0 1 "_law_is_integer" ["_law_value"] spIsInt := by
  refine okd F (F.ok sc_law_is_integer (fun vs H Q E h => ?_) fun cdv A outer s H vs Q E hr h => ⟨t_isint K, PSs.nox ?_, run_isint h⟩) fun _ _ _ _ _ _ us hl => match us, hl with | [_], _ => rfl
  · obtain ⟨x, rfl, _⟩ := h
    rfl
  · exact (pss_one (ps_ret (pe_and (pe_callB call_isi (by rfl) T.z_isinstance (by decide +kernel) (pa_cons (pv 0) (pa_cons (pe_ty (n := "int") T.z_int (by decide +kernel)) pa_nil))) (pe_one (pe_not (pe_callB call_isi (by rfl) T.z_isinstance (by decide +kernel) (pa_cons (pv 0) (pa_cons (pe_ty (n := "bool") T.z_bool (by decide +kernel)) pa_nil))))))))
abbrev s_law_cell : Stmt := top 12
theorem sc_law_cell : FnScope ["_law_script", "_law_k", "_law_cell_here", "_law_number", "_law_total", "_law_step"] ["_law_script", "_law_k"] (defScope s_law_cell) := ⟨rfl, rfl, rfl, by decide +kernel, rfl, by decide +kernel, by decide +kernel⟩
-- slots: 0 _law_script, 1 _law_k, 2 _law_cell_here, 3 _law_number, 4 _law_total, 5 _law_step
theorem ok_law_cell {fd : FuncData} (F : FnD K ("_law_cell", none) "_law_cell" "_law_cell" s_law_cell fd) (T : Txt K mg) : OkF P w K mg base CX0 1 "_law_cell" ["_law_script", "_law_k"] (Vf.spCell K) := by
  refine okd F (F.ok sc_law_cell (fun vs H Q E h => ?_) fun cdv A outer s H vs Q E hr h => ?_) fun _ _ _ _ _ _ us hl => match us, hl with | [_, _], _ => rfl
  · obtain ⟨l, ns, j, rfl, _⟩ := h
    rfl
  · obtain ⟨l, ns, j, rfl, hS, hj, q⟩ := h
    refine ⟨_, PSs.nox (pss_cons (ps_set (i := 2) sc_law_cell.nd rfl (Or.inl rfl) pe_int)
  (C8.pss_cut (ps_if (pt_cmpR op_lt (pv 1) (pe_callB call_len_seq (by rfl) T.z_len (by decide +kernel) (pa_cons (pv 0) pa_nil)) (nomark _)) (pss_one (ps_set (i := 2) sc_law_cell.nd rfl (Or.inl rfl) (pe_ix ix_list (pv 0) (pv 1) (fun _ _ => rfl))))
  pss_nil)
  (pss_cons (ps_if (pt_cmpR op_ge (pv 2) (pe_op op_pow pe_int pe_int) (nomark _)) (pss_one (ps_ret (pv 2)))
  pss_nil)
  (pss_cons (ps_set (i := 3) sc_law_cell.nd rfl (Or.inl rfl) (pe_op op_mod (pe_callTy call_int1 (by rfl) T.z_int (by decide +kernel) (pa_cons (pe_op op_add (pe_op op_add (pe_op op_mul (pv 2) pe_int) (pe_op op_mul (pv 1) pe_int)) pe_int) pa_nil)) pe_int))
  (pss_cons (ps_set (i := 4) sc_law_cell.nd rfl (Or.inl rfl) pe_int)
  (pss_cons (ps_for PassesOwn.never rfl (pi_range1 rfl T.z_range (pa_cons pe_int pa_nil)) (pg_name (i := 5) sc_law_cell.nd rfl (Or.inl rfl))
  (pss_cons (ps_set (i := 3) sc_law_cell.nd rfl (Or.inl rfl) (pe_op op_mod (pe_callTy call_int1 (by rfl) T.z_int (by decide +kernel) (pa_cons (pe_op op_add (pe_op op_add (pe_op op_mul (pv 3) pe_int) (pe_op op_mul (pv 5) pe_int)) pe_int) pa_nil)) pe_int))
  (pss_cons (ps_set (i := 3) sc_law_cell.nd rfl (Or.inl rfl) (pe_op op_mod (pe_callTy call_int1 (by rfl) T.z_int (by decide +kernel) (pa_cons (pe_op op_mul (pv 3) (pe_op op_add (pe_op op_fdiv (pv 3) pe_int) pe_int)) pa_nil)) pe_int))
  (pss_one (ps_set (i := 4) sc_law_cell.nd rfl (Or.inl rfl) (pe_op op_add (pe_op op_mul (pv 4) pe_int) (pv 3)))))))
  (pss_one (ps_ret (pv 4))))))))), ?_⟩
    refine ⟨fun σ' H' => H' = H ∧ ∃ c : Int, σ' = [some (.ref l), some (.int (j : Int)), some (.int c), none, none, none], ?_, ?_⟩
    · refine ⟨_, rfl, _, rfl, l, _, rfl, .inl hS, _, _, rfl, rfl, _, rfl, ite2 (fun hlt => ?_) fun _ => ⟨rfl, 0, rfl⟩⟩
      have hj2 : j < ns.length := by
        have := of_decide_eq_true hlt
        rw [List.length_map] at this
        omega
      refine ⟨_, rfl, _, rfl, l, _, (j : Int), .int ns[j], rfl, rfl, hS, atI_nat ?_, rfl, _, rfl⟩
      rw [List.getElem?_map, List.getElem?_eq_getElem hj2]
      rfl
    rintro σ' H' ⟨rfl, c, rfl⟩
    refine ⟨_, rfl, 10, 18, rfl, rfl, ⟨by decide, by decide, by decide⟩, _, _, rfl, rfl, _, rfl, ite2 (fun _ => ⟨_, rfl, q c⟩) fun _ => ?_⟩
    refine ⟨_, rfl, c, 7, rfl, rfl, .inr ⟨by decide, by decide⟩, _, rfl, (j : Int), 7919, rfl, rfl, .inr ⟨by decide, by decide⟩, _, _, rfl, rfl, _, _, rfl, rfl, .inl ⟨_, rfl, _, 2147483647, rfl, rfl, (by show (0 : Int) < 2147483647; decide), ?_⟩⟩
    refine ⟨8, rfl, by decide, by decide, for_range (lo := 0) (n := 8) (fun i σ H1 => H1 = H' ∧ ∃ (num tot : Int) (v : Option V), 0 ≤ num ∧ num < 2147483647 ∧ σ = [some (.ref l), some (.int (j : Int)), some (.int c), some (.int num), some (.int tot), v]) ?_ ?_ ?_⟩
    · exact ⟨rfl, _, 0, none, Int.emod_nonneg _ (by decide), Int.emod_lt_of_pos _ (by decide), rfl⟩
    · rintro i σ H1 hi ⟨rfl, num, tot, v, h0, h1, rfl⟩
      refine ⟨_, rfl, num, 48271, rfl, rfl, .inr ⟨by decide, by decide⟩, _, rfl, _, 30103, rfl, rfl, .inr ⟨by decide, by decide⟩, _, _, rfl, rfl, _, 11, rfl, rfl, .inl ⟨_, rfl, _, 2147483647, rfl, rfl, (by show (0 : Int) < 2147483647; decide), ?_⟩⟩
      have b0 := Int.emod_nonneg (num * 48271 + (0 + (i : Int)) * 30103 + 11) (b := 2147483647) (by decide)
      have b1 := Int.emod_lt_of_pos (num * 48271 + (0 + (i : Int)) * 30103 + 11) (b := 2147483647) (by decide)
      refine ⟨_, rfl, _, rfl, _, 1009, rfl, rfl, ⟨by decide, by decide⟩, _, 69621, rfl, rfl, _, _, rfl, rfl, .inl ⟨by omega, by omega⟩, .inl ⟨_, rfl, _, 2147483629, rfl, rfl, (by show (0 : Int) < 2147483629; decide), ?_⟩⟩
      refine ⟨_, rfl, tot, 2147483629, rfl, rfl, .inr ⟨by decide, by decide⟩, _, rfl, _, _, rfl, rfl, ?_⟩
      exact ⟨rfl, _, _, _, Int.emod_nonneg _ (by decide), Int.lt_trans (Int.emod_lt_of_pos _ (by decide)) (by decide), rfl⟩
    · rintro σ H1 ⟨rfl, num, tot, v, h0, h1, rfl⟩
      exact ⟨_, rfl, q tot⟩
abbrev s_law_gcd : Stmt := top 15
theorem sc_law_gcd : FnScope ["_law_one", "_law_two", "_law_a", "_law_b", "_law_k", "_law_rest"] ["_law_one", "_law_two"] (defScope s_law_gcd) := ⟨rfl, rfl, rfl, by decide +kernel, rfl, by decide +kernel, by decide +kernel⟩
-- slots: 0 _law_one, 1 _law_two, 2 _law_a, 3 _law_b, 4 _law_k, 5 _law_rest
def spGcd : Sp := fun vs H Q _ => ∃ a b : Int, vs = [.int a, .int b] ∧ Bit 249 b ∧ Q (.int ((Nat.gcd a.natAbs b.natAbs : Nat) : Int)) H
theorem abs_if (a : Int) : (if a < 0 then -a else a) = ((a.natAbs : Nat) : Int) := by split <;> omega
theorem ok_law_gcd {fd : FuncData} (F : FnD K ("_law_gcd", none) "_law_gcd" "_law_gcd" s_law_gcd fd) (T : Txt K mg) : OkF P w K mg base CX0 1 "_law_gcd" ["_law_one", "_law_two"] spGcd := by
  refine okd F (F.ok sc_law_gcd (fun vs H Q E h => ?_) fun cdv A outer s H vs Q E hr h => ?_) fun _ _ _ _ _ _ us hl => match us, hl with | [_, _], _ => rfl
  · obtain ⟨a, b, rfl, _⟩ := h
    rfl
  · obtain ⟨a, b, rfl, hb, q⟩ := h
    refine ⟨_, PSs.nox (pss_cons (ps_set (i := 2) sc_law_gcd.nd rfl (Or.inl rfl) (pe_callB call_abs (by rfl) T.z_abs (by decide +kernel) (pa_cons (pv 0) pa_nil)))
  (pss_cons (ps_set (i := 3) sc_law_gcd.nd rfl (Or.inl rfl) (pe_callB call_abs (by rfl) T.z_abs (by decide +kernel) (pa_cons (pv 1) pa_nil)))
  (pss_cons (ps_for PassesOwn.never rfl (pi_range1 rfl T.z_range (pa_cons pe_int pa_nil)) (pg_name (i := 4) sc_law_gcd.nd rfl (Or.inl rfl))
  (pss_cons (ps_if (pt_cmpR op_eq (pv 3) pe_int (nomark _)) (pss_one (ps_ret (pv 2)))
  pss_nil)
  (pss_cons (ps_set (i := 5) sc_law_gcd.nd rfl (Or.inl rfl) (pe_op op_mod (pe_callTy call_int1 (by rfl) T.z_int (by decide +kernel) (pa_cons (pv 2) pa_nil)) (pv 3)))
  (pss_cons (ps_set (i := 2) sc_law_gcd.nd rfl (Or.inl rfl) (pv 3))
  (pss_one (ps_set (i := 3) sc_law_gcd.nd rfl (Or.inl rfl) (pv 5)))))))
  (pss_one (ps_ret (pv 2)))))), ?_⟩
    refine ⟨_, rfl, a, rfl, _, rfl, b, rfl, ?_⟩
    refine ⟨500, rfl, by decide, by decide, for_range (lo := 0) (n := 500) (fun i σ H1 => H1 = H ∧ ∃ (x y : Nat) (v u : Option V), Eu (Nat.gcd a.natAbs b.natAbs) b.natAbs i x y ∧ σ = [some (.int a), some (.int b), some (.int (x : Int)), some (.int (y : Int)), v, u]) ?_ ?_ ?_⟩
    · refine ⟨rfl, a.natAbs, b.natAbs, none, none, Eu.start _ _, ?_⟩
      rw [← abs_if a, ← abs_if b]
      rfl
    · rintro i σ H1 hi ⟨rfl, x, y, v, u, hE, rfl⟩
      refine ⟨_, rfl, rfl, _, rfl, ite2 (fun h => ?_) fun h => ?_⟩
      · have hy : y = 0 := by
          have := of_decide_eq_true h
          injection this with this
          omega
        subst hy
        refine ⟨_, rfl, ?_⟩
        rw [hE.zero]
        exact q
      · have hy : y ≠ 0 := fun e => h (decide_eq_true (by rw [e]; rfl))
        refine ⟨_, rfl, .inl ⟨_, rfl, _, rfl, (x : Int), (y : Int), rfl, rfl, (by omega), ?_⟩⟩
        exact ⟨_, rfl, _, rfl, rfl, y, x % y, _, _, hE.step hy, rfl⟩
    · rintro σ H1 ⟨rfl, x, y, v, u, hE, rfl⟩
      refine ⟨_, rfl, ?_⟩
      rw [hE.last (Nat.lt_of_lt_of_le hb (Nat.pow_le_pow_right (by decide) (by decide)))]
      exact q
abbrev s_law_is_share : Stmt := top 16
theorem sc_law_is_share : FnScope ["_law_value", "_law_top", "_law_bottom"] ["_law_value", "_law_top", "_law_bottom"] (defScope s_law_is_share) := ⟨rfl, rfl, rfl, by decide +kernel, rfl, by decide +kernel, by decide +kernel⟩
-- slots: 0 _law_value, 1 _law_top, 2 _law_bottom
def spIsSh (C : Addr) : Sp := fun vs H Q _ => ∃ (p : Addr) (a b t u : Int), vs = [.ref p, .int t, .int u] ∧ Sh C H p a b ∧ Nf a b ∧ Bit 249 b ∧ Bit 4000 a ∧ Bit 4000 t ∧ Bit 4000 u ∧ a * u = t * b ∧ Q (.bl true) H
theorem ok_law_is_share {fd : FuncData} (F : FnD K ("_law_is_share", none) "_law_is_share" "_law_is_share" s_law_is_share fd) (T : Txt K mg) (O_law_is_integer : OkF P w K mg base CX0 1 "_law_is_integer" ["_law_value"] spIsInt) (O_law_gcd : OkF P w K mg base CX0 1 "_law_gcd" ["_law_one", "_law_two"] spGcd) :
    OkF P w K mg base CX0 2 "_law_is_share" ["_law_value", "_law_top", "_law_bottom"] (spIsSh (CS K)) := by
  refine okd F (F.ok sc_law_is_share (fun vs H Q E h => ?_) fun cdv A outer s H vs Q E hr h => ?_) fun _ _ _ _ _ _ us hl => match us, hl with | [_, _, _], _ => rfl
  · obtain ⟨p, a, b, t, u, rfl, _⟩ := h
    rfl
  · obtain ⟨p, a, b, t, u, rfl, ⟨dx, hp⟩, nf, hb, ha, hT, hu, he, q⟩ := h
    refine ⟨_, PSs.nox (pss_cons (ps_if (PW.pt (pw_or (pt_not (pt_val (pe_callB call_isi (by rfl) T.z_isinstance (by decide +kernel) (pa_cons (pv 0) (pa_cons (pe_cl T.g_Share) pa_nil))))) (pw_or (pt_not (pt_val (c_fn O_law_is_integer hr (by decide) T.g_law_is_integer pass0 (pa_cons (pe_fld (pv 0) rfl) pa_nil)))) (pw_or1 (pt_not (pt_val (c_fn O_law_is_integer hr (by decide) T.g_law_is_integer pass0 (pa_cons (pe_fld (pv 0) rfl) pa_nil)))))))) (pss_one (ps_ret pe_bl))
  pss_nil)
  (pss_cons (ps_if (PW.pt (pw_or (pt_cmpR op_lt (pe_fld (pv 0) rfl) pe_int (nomark _)) (pw_or1 (pt_cmpR op_ne (c_fn O_law_gcd hr (by decide) T.g_law_gcd pass0 (pa_cons (pe_fld (pv 0) rfl) (pa_cons (pe_fld (pv 0) rfl) pa_nil))) pe_int (nomark _))))) (pss_one (ps_ret pe_bl))
  pss_nil)
  (pss_one (ps_ret (pe_cmpR op_eq (pe_op op_mulW (pe_fld (pv 0) rfl) (pv 2)) (pe_op op_mulW (pv 1) (pe_fld (pv 0) rfl)) (nomark _)))))), ?_⟩
    have ft : (shf a b).lookup ("top" : Str) = some (.int a) := shf_top a b
    have fb : (shf a b).lookup ("bottom" : Str) = some (.int b) := shf_bottom a b
    refine ⟨_, rfl, .ref p, .ref (CS K), .ref (CS K), .ref (CS K), true, rfl, .own _, .base (.ins hp T.c_Share T.ha T.hn T.ht T.hm), T.k1, true, rfl, iteF ?_⟩
    refine ⟨_, rfl, p, _, dx, _, _, rfl, hp, T.c_Share, T.nT, ft, _, rfl, .inl ⟨⟨a, rfl⟩, true, rfl, iteF ?_⟩⟩
    refine ⟨_, rfl, p, _, dx, _, _, rfl, hp, T.c_Share, T.nB, fb, _, rfl, .inl ⟨⟨b, rfl⟩, true, rfl, iteF ?_⟩⟩
    have hb0 := nf.pos
    refine ⟨_, rfl, p, _, dx, _, _, rfl, hp, T.c_Share, T.nB, fb, b, 1, rfl, rfl, _, rfl, ite2 (fun h => absurd (of_decide_eq_true h) (by omega)) fun _ => ?_⟩
    refine ⟨_, rfl, p, _, dx, _, _, rfl, hp, T.c_Share, T.nT, ft, _, rfl, p, _, dx, _, _, rfl, hp, T.c_Share, T.nB, fb, a, b, rfl, hb, rfl, _, rfl, ?_⟩
    rw [nf.cop, decide_eq_true (show V.int ((1 : Nat) : Int) = V.int 1 from rfl)]
    refine iteF ⟨_, rfl, p, _, dx, _, _, rfl, hp, T.c_Share, T.nT, ft, _, rfl, a, u, rfl, rfl, ha.wm hu (by decide) (by decide) (by decide), _, rfl, _, rfl, p, _, dx, _, _, rfl, hp, T.c_Share, T.nB, fb, t, b, rfl, rfl, hT.wm hb (by decide) (by decide) (by decide), rfl, ?_⟩
    show Q (.bl (decide (V.int (a * u) = V.int (t * b)))) H
    rw [he, decide_eq_true (rfl : V.int (t * b) = V.int (t * b))]
    exact q
theorem nf_cross {c d e f : Int} (n1 : Nf c d) (n2 : Nf e f) (h : c * f = e * d) : c = e ∧ d = f := by
  have p1 := n1.pos
  have p2 := n2.pos
  have hn : c.natAbs * f.natAbs = e.natAbs * d.natAbs := by rw [← Int.natAbs_mul, ← Int.natAbs_mul, h]
  have d1 : d.natAbs ∣ f.natAbs := by
    have co : Nat.Coprime d.natAbs c.natAbs := by
      rw [Nat.coprime_comm]
      exact n1.cop
    exact co.dvd_of_dvd_mul_left ⟨e.natAbs, by rw [hn, Nat.mul_comm]⟩
  have d2 : f.natAbs ∣ d.natAbs := by
    have co : Nat.Coprime f.natAbs e.natAbs := by
      rw [Nat.coprime_comm]
      exact n2.cop
    exact co.dvd_of_dvd_mul_left ⟨c.natAbs, by rw [← hn, Nat.mul_comm]⟩
  have hq := Nat.dvd_antisymm d1 d2
  have hdf : d = f := by omega
  subst hdf
  exact ⟨Int.eq_of_mul_eq_mul_right (by omega) h, rfl⟩
theorem fEq_cross {c d e f : Int} (n1 : Nf c d) (n2 : Nf e f) : fEq c d e f = decide (c * f = e * d) := by
  unfold fEq
  rw [Bool.eq_iff_iff, Bool.and_eq_true, decide_eq_true_eq, decide_eq_true_eq, decide_eq_true_eq]
  exact ⟨fun h => by rw [h.1, h.2], nf_cross n1 n2⟩

/-- what lowest terms say of the sizes -/
theorem nf_le {a b t u : Int} (n : Nf a b) (hu : 0 < u) (h : a * u = t * b) : b ≤ u ∧ a.natAbs ≤ t.natAbs := by
  have p1 := n.pos
  have hn : a.natAbs * u.natAbs = t.natAbs * b.natAbs := by rw [← Int.natAbs_mul, ← Int.natAbs_mul, h]
  have d1 : b.natAbs ∣ u.natAbs := by
    have co : Nat.Coprime b.natAbs a.natAbs := by
      rw [Nat.coprime_comm]
      exact n.cop
    exact co.dvd_of_dvd_mul_left ⟨t.natAbs, by rw [hn, Nat.mul_comm]⟩
  have hle := Nat.le_of_dvd (by omega) d1
  refine ⟨by omega, ?_⟩
  have h2 : a.natAbs * u.natAbs ≤ t.natAbs * u.natAbs := by
    rw [hn]
    exact Nat.mul_le_mul_left _ hle
  exact Nat.le_of_mul_le_mul_right h2 (by omega)
abbrev s_law_part : Stmt := top 17
theorem sc_law_part : FnScope ["_law_cell_here", "_law_bottom"] ["_law_cell_here"] (defScope s_law_part) := ⟨rfl, rfl, rfl, by decide +kernel, rfl, by decide +kernel, by decide +kernel⟩
-- slots: 0 _law_cell_here, 1 _law_bottom
def spPart : Sp := fun vs H Q _ => ∃ c : Int, vs = [.int c] ∧ ∀ (l : Addr) (t b : Int), H l = none → 0 < b → b ≤ 40 → Bit 134 t → Q (.ref l) (upd H l (.lst [.int t, .int b]))
theorem b134 : (2 : Nat) ^ 134 = 21778071482940061661655974875633165533184 := by decide
theorem ok_law_part {fd : FuncData} (F : FnD K ("_law_part", none) "_law_part" "_law_part" s_law_part fd) (T : Txt K mg) : OkF P w K mg base CX0 1 "_law_part" ["_law_cell_here"] spPart := by
  refine okd F (F.ok sc_law_part (fun vs H Q E h => ?_) fun cdv A outer s H vs Q E hr h => ?_) fun _ _ _ _ _ _ us hl => match us, hl with | [_], _ => rfl
  · obtain ⟨c, rfl, _⟩ := h
    rfl
  · obtain ⟨c, rfl, k⟩ := h
    refine ⟨_, PSs.nox (pss_cons (ps_set (i := 1) sc_law_part.nd rfl (Or.inl rfl) (pe_op op_add pe_int (pe_op op_mod (pe_callTy call_int1 (by rfl) T.z_int (by decide +kernel) (pa_cons (pv 0) pa_nil)) pe_int)))
  (pss_one (ps_ret (pe_lst (pa_cons (pe_op op_sub (pe_op op_mod (pe_op op_fdiv (pe_callTy call_int1 (by rfl) T.z_int (by decide +kernel) (pa_cons (pv 0) pa_nil)) pe_int) (pe_op op_add (pe_op op_mulW pe_int (pe_op op_pow pe_int pe_int)) pe_int)) (pe_op op_pow pe_int pe_int)) (pa_cons (pv 1) pa_nil)))))), ?_⟩
    have w2 : CMulW 2 (10 ^ Int.toNat 40) := Bit.wm (n := 2) (m := 134) (show (2 : Int).natAbs < 2 ^ 2 by decide) (show (10 ^ Int.toNat 40 : Int).natAbs < 2 ^ 134 by decide) (by decide) (by decide) (by decide)
    refine ⟨_, rfl, .inl ⟨c, rfl, _, 40, rfl, rfl, (by show (0 : Int) < 40; decide), 1, _, rfl, rfl, ?_⟩⟩
    refine ⟨_, rfl, .inl ⟨c, rfl, _, 40, rfl, rfl, ⟨by decide, by decide⟩, 10, 40, rfl, rfl, ⟨by decide, by decide, by decide⟩, 2, _, rfl, rfl, w2, _, 1, rfl, rfl, _, _, rfl, rfl, (by show (0 : Int) < 2 * 10 ^ Int.toNat 40 + 1; decide), 10, 40, rfl, rfl, ⟨by decide, by decide, by decide⟩, _, _, rfl, rfl, _, rfl, (by show 2 ≤ sizeLine; decide), fun l nl => ?_⟩⟩
    have h0 := Int.emod_nonneg c (b := 40) (by decide)
    have h1 := Int.emod_lt_of_pos c (b := 40) (by decide)
    have h2 := Int.emod_nonneg (c / 40) (b := 20000000000000000000000000000000000000001) (by decide)
    have h3 := Int.emod_lt_of_pos (c / 40) (b := 20000000000000000000000000000000000000001) (by decide)
    refine k l (c / 40 % 20000000000000000000000000000000000000001 - 10000000000000000000000000000000000000000) (1 + c % 40) nl (by omega) (by omega) ?_
    unfold Bit
    rw [b134]
    omega
end
end K4

set_option Elab.async false
set_option linter.all false
set_option maxRecDepth 100000
set_option maxHeartbeats 2000000
namespace K4
open PySem PySem.Spec PyProof.Rows L2 Vf
section
variable {P : Program} {w : World} {K : PySem.W.Frag} {mg : Str → Option Value} {base : Heap}
/-- the common bottom, step by step -/
def lc : Nat → Int
  | 0 => 1
  | i + 1 => (lc i * (1 + (i : Int))) / ((Nat.gcd (lc i).natAbs (1 + (i : Int)).natAbs : Nat) : Int)
def LL : Int := 5342931457063200
theorem lc_40 : lc 40 = LL := by decide +kernel
theorem lc_bit {i : Nat} (h : i < 41) : Bit 60 (lc i) := by
  show (lc i).natAbs < 2 ^ 60
  have a : (List.range 41).all (fun i => decide ((lc i).natAbs < 2 ^ 60)) = true := by decide +kernel
  have := List.all_eq_true.mp a i (List.mem_range.mpr h)
  exact of_decide_eq_true this
theorem LL_pos : 0 < LL := by decide
theorem LL_bit : Bit 53 LL := by unfold Bit; decide
theorem LL_div {b : Int} (b0 : 0 < b) (b1 : b ≤ 40) : b * (LL / b) = LL := by
  have a : (List.range 41).all (fun i => decide (i = 0 ∨ (i : Int) * (LL / (i : Int)) = LL)) = true := by decide +kernel
  have h := of_decide_eq_true (List.all_eq_true.mp a b.toNat (List.mem_range.mpr (by omega)))
  rw [Int.toNat_of_nonneg (by omega)] at h
  rcases h with h | h
  · omega
  · exact h
def TP (ps : List (Int × Int)) : Int := (ps.map fun x => x.1 * (LL / x.2)).sum
def FP (ps : List (Int × Int)) : Int := (ps.map fun x => x.1 / x.2).sum
def Good (ps : List (Int × Int)) : Prop := ∀ x ∈ ps, 0 < x.2 ∧ x.2 ≤ 40 ∧ Bit 134 x.1
theorem TP_app (ps : List (Int × Int)) (x : Int × Int) : TP (ps ++ [x]) = TP ps + x.1 * (LL / x.2) := by simp [TP, List.sum_append]
theorem FP_app (ps : List (Int × Int)) (x : Int × Int) : FP (ps ++ [x]) = FP ps + x.1 / x.2 := by simp [FP, List.sum_append]
theorem TP_cons (ps : List (Int × Int)) (x : Int × Int) : TP (x :: ps) = x.1 * (LL / x.2) + TP ps := by simp [TP]
theorem TP_le : ∀ ps : List (Int × Int), Good ps → (TP ps).natAbs ≤ ps.length * 2 ^ 187
  | [], _ => by simp [TP]
  | x :: ps, g => by
    have h := TP_le ps fun y hy => g y (List.mem_cons_of_mem _ hy)
    obtain ⟨g1, g2, g3⟩ := g x List.mem_cons_self
    have d := LL_div g1 g2
    have w : Bit 53 (LL / x.2) := LL_bit.le (Int.natAbs_ediv_le_natAbs _ _)
    have m := g3.mul w
    unfold Bit at m
    rw [TP_cons, List.length_cons]
    have e : (2 : Nat) ^ (134 + 53) = 2 ^ 187 := rfl
    rw [e] at m
    generalize (2 : Nat) ^ 187 = B at m h ⊢
    rw [Nat.add_mul]
    omega
theorem TP_bit {ps : List (Int × Int)} (g : Good ps) (h : ps.length ≤ 63) : Bit 193 (TP ps) := by
  have a := TP_le ps g
  unfold Bit
  have : ps.length * 2 ^ 187 ≤ 63 * 2 ^ 187 := Nat.mul_le_mul_right _ h
  have e : 63 * 2 ^ 187 < 2 ^ 193 := by decide
  omega
theorem FP_le : ∀ ps : List (Int × Int), Good ps → FP ps * LL ≤ TP ps ∧ TP ps ≤ (FP ps + ps.length) * LL - ps.length
  | [], _ => by simp [TP, FP]
  | x :: ps, g => by
    obtain ⟨h1, h2⟩ := FP_le ps fun y hy => g y (List.mem_cons_of_mem _ hy)
    obtain ⟨g1, g2, g3⟩ := g x List.mem_cons_self
    have d := LL_div g1 g2
    have w0 : 0 < LL / x.2 := by
      rcases (show LL / x.2 ≤ 0 ∨ 0 < LL / x.2 by omega) with h | h
      · have := Int.mul_nonpos_of_nonneg_of_nonpos (Int.le_of_lt g1) h
        rw [d] at this
        exact absurd LL_pos (by omega)
      · exact h
    have q1 := Int.ediv_mul_le x.1 (Int.ne_of_gt g1)
    have q2 := Int.lt_ediv_add_one_mul_self x.1 g1
    have e1 : FP (x :: ps) = x.1 / x.2 + FP ps := by simp [FP]
    rw [e1, TP_cons, List.length_cons]
    generalize LL / x.2 = wv at d w0 ⊢
    generalize x.1 / x.2 = qv at q1 q2 ⊢
    have a1 : qv * LL ≤ x.1 * wv := by
      have := Int.mul_le_mul_of_nonneg_right q1 (Int.le_of_lt w0)
      rw [Int.mul_assoc, d] at this
      exact this
    have a2 : x.1 * wv ≤ (qv + 1) * LL - 1 := by
      have := Int.mul_lt_mul_of_pos_right q2 w0
      rw [Int.mul_assoc, d] at this
      omega
    constructor
    · rw [Int.add_mul]
      omega
    · have e2 : (qv + FP ps + ((ps.length + 1 : Nat) : Int)) * LL = (qv + 1) * LL + (FP ps + (ps.length : Int)) * LL := by
        rw [← Int.add_mul]
        congr 1
        omega
      rw [e2]
      omega
/-- v is T over M, in lowest terms -/
structure Val (p q T M : Int) : Prop where
  nf : Nf p q
  eq : p * M = T * q
  m0 : 0 < M
theorem Val.bq {p q T M : Int} {n : Nat} (h : Val p q T M) (b : Bit n M) : Bit n q := b.le (by have := (nf_le h.nf h.m0 h.eq).1; have := h.nf.pos; omega)
theorem Val.bp {p q T M : Int} {n : Nat} (h : Val p q T M) (b : Bit n T) : Bit n p := b.le (nf_le h.nf h.m0 h.eq).2
theorem val_of {t b : Int} (hb : 0 < b) : Val (nT t b) (nB t b) t b := ⟨(nf_of t (Int.ne_of_gt hb)).toNf, (nf_of t (Int.ne_of_gt hb)).eq, hb⟩
theorem val_int (n : Int) {M : Int} (hM : 0 < M) : Val n 1 (n * M) M := ⟨⟨by decide, by rw [show (1 : Int).natAbs = 1 from rfl, Nat.gcd_one_right]⟩, by rw [Int.mul_one], hM⟩
theorem val_add {p q c d x y T t b : Int} {M w : Int} (h1 : Val p q T M) (h2 : Val c d t b) (hw : b * w = M) (n : Nf x y) (h : x * (q * d) = (p * d + c * q) * y) : Val x y (T + t * w) M := by
  refine ⟨n, ?_, h1.m0⟩
  have e1 := h1.eq
  have e2 := h2.eq
  have z : (q * d) * (x * M) = (q * d) * ((T + t * w) * y) := by grind
  exact Int.eq_of_mul_eq_mul_left (Int.mul_ne_zero (Int.ne_of_gt h1.nf.pos) (Int.ne_of_gt h2.nf.pos)) z
theorem val_sub {p q c d x y T t b : Int} {M w : Int} (h1 : Val p q T M) (h2 : Val c d t b) (hw : b * w = M) (n : Nf x y) (h : x * (q * d) = (p * d - c * q) * y) : Val x y (T - t * w) M := by
  refine ⟨n, ?_, h1.m0⟩
  have e1 := h1.eq
  have e2 := h2.eq
  have z : (q * d) * (x * M) = (q * d) * ((T - t * w) * y) := by grind
  exact Int.eq_of_mul_eq_mul_left (Int.mul_ne_zero (Int.ne_of_gt h1.nf.pos) (Int.ne_of_gt h2.nf.pos)) z
theorem val_mul {p q c d x y T M t b : Int} (h1 : Val p q T M) (h2 : Val c d t b) (n : Nf x y) (h : x * (q * d) = (p * c) * y) : Val x y (T * t) (M * b) := by
  refine ⟨n, ?_, Int.mul_pos h1.m0 h2.m0⟩
  have e1 := h1.eq
  have e2 := h2.eq
  have z : (q * d) * (x * (M * b)) = (q * d) * ((T * t) * y) := by grind
  exact Int.eq_of_mul_eq_mul_left (Int.mul_ne_zero (Int.ne_of_gt h1.nf.pos) (Int.ne_of_gt h2.nf.pos)) z
theorem val_eq {p q c d T M : Int} (h1 : Val p q T M) (h2 : Val c d T M) : p = c ∧ q = d := by
  refine nf_cross h1.nf h2.nf ?_
  have e1 := h1.eq
  have e2 := h2.eq
  have z : M * (p * d) = M * (c * q) := by grind
  exact Int.eq_of_mul_eq_mul_left (Int.ne_of_gt h1.m0) z
/-- the floor of T over M -/
theorem val_floor {p q T M : Int} (h : Val p q T M) : p / q = T / M := by
  rw [floor_eq h.nf.pos (Int.ne_of_gt h.m0) h.eq, Int.fdiv_eq_ediv_of_nonneg T (Int.le_of_lt h.m0)]
theorem val_back {x y f g p q x5 y5 T M : Int} (e1 : x * (q * f) = (p * g) * y) (e2 : x5 * (y * g) = (x * f) * y5) (V : Val p q T M) (n : Nf x5 y5) (hf : f ≠ 0) (hg : 0 < g) (hy : 0 < y) : Val x5 y5 T M := by
  refine ⟨n, ?_, V.m0⟩
  have e3 := V.eq
  have z1 : (y * g * f) * (x5 * q) = (y * g * f) * (p * y5) := by
    have a : (y * g * f) * (x5 * q) = (x5 * (y * g)) * (q * f) := by grind
    have b : (x * f * y5) * (q * f) = (x * (q * f)) * (f * y5) := by grind
    have c : (p * g * y) * (f * y5) = (y * g * f) * (p * y5) := by grind
    rw [a, e2, b, e1, c]
  have z2 := Int.eq_of_mul_eq_mul_left (Int.mul_ne_zero (Int.mul_ne_zero (Int.ne_of_gt hy) (Int.ne_of_gt hg)) hf) z1
  have z3 : q * (x5 * M) = q * (T * y5) := by
    have a : q * (x5 * M) = (x5 * q) * M := by grind
    have b : (p * y5) * M = (p * M) * y5 := by grind
    have c : (T * q) * y5 = q * (T * y5) := by grind
    rw [a, z2, b, e3, c]
  exact Int.eq_of_mul_eq_mul_left (Int.ne_of_gt V.nf.pos) z3
end
end K4

set_option Elab.async false
set_option linter.all false
set_option maxRecDepth 100000
set_option maxHeartbeats 2000000
namespace K4
open PySem PySem.Spec PyProof.Rows L2 Vf
section
variable {P : Program} {w : World} {K : PySem.W.Frag} {mg : Str → Option Value} {base : Heap}
theorem ix_listK {X : Cx} {K : PySem.W.Frag} (h : X.K = K) : IxR X (rIxL K) := h ▸ ix_list
/-- the list at D: lists of a top and a bottom each -/
def PartsAt (H : Hp) (D : Addr) (Ps : List (Addr × Int × Int)) : Prop := H D = some (.lst (Ps.map fun x => V.ref x.1)) ∧ ∀ x ∈ Ps, H x.1 = some (.lst [.int x.2.1, .int x.2.2]) ∧ x.1 ≠ D ∧ 0 < x.2.2 ∧ x.2.2 ≤ 40 ∧ Bit 134 x.2.1
/-- the list at D: shares -/
def SharesAt (C : Addr) (H : Hp) (D : Addr) (Ss : List (Addr × Int × Int)) : Prop := H D = some (.lst (Ss.map fun x => V.ref x.1)) ∧ ∀ x ∈ Ss, Sh C H x.1 (nT x.2.1 x.2.2) (nB x.2.1 x.2.2) ∧ x.1 ≠ D ∧ 0 < x.2.2 ∧ x.2.2 ≤ 40 ∧ Bit 134 x.2.1
theorem PartsAt.ext {H H' : Hp} {D : Addr} {Ps : List (Addr × Int × Int)} (h : PartsAt H D Ps) (s : Same H H') : PartsAt H' D Ps := ⟨s _ _ h.1, fun x hx => ⟨s _ _ (h.2 x hx).1, (h.2 x hx).2⟩⟩
theorem SharesAt.ext {C : Addr} {H H' : Hp} {D : Addr} {Ps : List (Addr × Int × Int)} (h : SharesAt C H D Ps) (s : Same H H') : SharesAt C H' D Ps := ⟨s _ _ h.1, fun x hx => ⟨(h.2 x hx).1.ext s, (h.2 x hx).2⟩⟩
theorem PartsAt.add {H : Hp} {D l : Addr} {Ps : List (Addr × Int × Int)} {t b : Int} (h : PartsAt H D Ps) (nl : H l = none) (b0 : 0 < b) (b1 : b ≤ 40) (ht : Bit 134 t) :
    PartsAt (upd (upd H l (.lst [.int t, .int b])) D (.lst ((Ps.map fun x => V.ref x.1) ++ [.ref l]))) D (Ps ++ [(l, t, b)]) := by
  have nlD : D ≠ l := ne_of_none h.1 nl
  refine ⟨by rw [upd_same, List.map_append]; rfl, fun x hx => ?_⟩
  rcases List.mem_append.mp hx with hx | hx
  · obtain ⟨h1, h2, h3⟩ := h.2 x hx
    exact ⟨by rw [upd_ne h2, upd_ne (ne_of_none h1 nl)]; exact h1, h2, h3⟩
  · rw [List.mem_singleton] at hx
    subst hx
    exact ⟨by rw [upd_ne nlD.symm, upd_same], nlD.symm, b0, b1, ht⟩
theorem SharesAt.add {C : Addr} {H : Hp} {D p dx : Addr} {Ps : List (Addr × Int × Int)} {t b : Int} (h : SharesAt C H D Ps) (np : H p = none) (ndx : H dx = none) (b0 : 0 < b) (b1 : b ≤ 40) (ht : Bit 134 t) :
    SharesAt C (upd (upd (upd (upd H dx (.own p)) p (.ins C dx [])) p (.ins C dx (shf (nT t b) (nB t b)))) D (.lst ((Ps.map fun x => V.ref x.1) ++ [.ref p]))) D (Ps ++ [(p, t, b)]) := by
  have npD : D ≠ p := ne_of_none h.1 np
  have s := same_make2 (o1 := .own p) (o2 := .ins C dx []) (o3 := .ins C dx (shf (nT t b) (nB t b))) np ndx
  refine ⟨by rw [upd_same, List.map_append]; rfl, fun x hx => ?_⟩
  rcases List.mem_append.mp hx with hx | hx
  · obtain ⟨⟨dz, h1⟩, h2, h3⟩ := h.2 x hx
    exact ⟨⟨dz, by rw [upd_ne h2]; exact s _ _ h1⟩, h2, h3⟩
  · rw [List.mem_singleton] at hx
    subst hx
    exact ⟨⟨dx, by rw [upd_ne npD.symm, upd_same]⟩, npD.symm, b0, b1, ht⟩
theorem bit40 {b : Int} (b0 : 0 < b) (b1 : b ≤ 40) : Bit 6 b := by
  unfold Bit
  rw [show (2 : Nat) ^ 6 = 64 from rfl]
  omega
theorem same_app {H H1 H2 : Hp} {D : Addr} {o : HO} (s : Same H H1) (s2 : Same H1 H2) (nD : H D = none) : Same H (upd H2 D o) := fun b u e => by
  rw [upd_ne (ne_of_none e nD)]
  exact s2 _ _ (s _ _ e)
abbrev s_law : Stmt := top 18
theorem sc_law : FnScope ["_law_script", "_law_many", "_law_parts", "_law_k", "_law_shares", "_law_part_here", "_law_scale", "_law_factor", "_law_common", "_law_top", "_law_total", "_law_scaled", "_law_floors", "_law_share", "_law_back", "_law_rest"] ["_law_script"] (defScope s_law) := ⟨rfl, rfl, rfl, by decide +kernel, rfl, by decide +kernel, by decide +kernel⟩
-- slots: 0 _law_script, 1 _law_many, 2 _law_parts, 3 _law_k, 4 _law_shares, 5 _law_part_here, 6 _law_scale, 7 _law_factor, 8 _law_common, 9 _law_top, 10 _law_total, 11 _law_scaled, 12 _law_floors, 13 _law_share, 14 _law_back, 15 _law_rest
def spLaw (K : PySem.W.Frag) : Sp := fun vs H Q _ => ∃ (a : Addr) (ns : List Int), vs = [.ref a] ∧ SqL K H a (ns.map V.int) ∧ ns.length ≤ 63 ∧ ∀ H', Q (.bl true) H'
theorem ok_law {fd : FuncData} (F : FnD K ("law", none) "law" "law" s_law fd) (T : Txt K mg) (M : SMeth K) (CM : CMeth K) (O_law_cell : OkF P w K mg base CX0 1 "_law_cell" ["_law_script", "_law_k"] (Vf.spCell K)) (O_law_part : OkF P w K mg base CX0 1 "_law_part" ["_law_cell_here"] spPart)
    (O_law_is_integer : OkF P w K mg base CX0 1 "_law_is_integer" ["_law_value"] spIsInt) (O_law_gcd : OkF P w K mg base CX0 1 "_law_gcd" ["_law_one", "_law_two"] spGcd) (O_law_is_share : OkF P w K mg base CX0 2 "_law_is_share" ["_law_value", "_law_top", "_law_bottom"] (spIsSh (CS K)))
    (O_Share_init2 : OkD P w K mg base (L2.CX P w) 4 ("Share", some "__init__") ["self", "top", "bottom"] [] (spShI K)) (O_Share_init1 : OkD P w K mg base (L2.CX P w) 4 ("Share", some "__init__") ["self", "top", "bottom"] [.int 1] (spShI K))
    (O_Share_floor : OkM P w K mg base CX0 1 "floor" ["self"] (spFloor (CS K))) (O_Share_over : OkM P w K mg base (L2.CX P w) 6 "over" ["self", "other"] (spOver K))
    (O_add : OkM P w K mg base CX0 6 "__add__" ["self", "other"] (spAr (CS K) Fad Gbd)) (O_radd : OkM P w K mg base CX0 7 "__radd__" ["self", "other"] (spRe (CS K) Fad Gbd)) (O_sub : OkM P w K mg base CX0 6 "__sub__" ["self", "other"] (spAr (CS K) Fsu Gbd)) (O_rsub : OkM P w K mg base CX0 7 "__rsub__" ["self", "other"] (spRs (CS K)))
    (O_mul : OkM P w K mg base CX0 6 "__mul__" ["self", "other"] (spAr (CS K) Fmu Gbd)) (O_rmul : OkM P w K mg base CX0 7 "__rmul__" ["self", "other"] (spRe (CS K) Fmu Gbd)) (O_fdv : OkM P w K mg base (L2.CX P w) 7 "__floordiv__" ["self", "other"] (spFd K)) (O_rfdv : OkM P w K mg base (L2.CX P w) 7 "__rfloordiv__" ["self", "other"] (spRf K))
    (O_eq : OkM P w K mg base CX0 3 "__eq__" ["self", "other"] (spEqs (CS K) id)) (O_ne : OkM P w K mg base CX0 4 "__ne__" ["self", "other"] (spEqs (CS K) not)) :
    FnOk P w K mg base CX0 10 (He.fAd K ("law", none)) fd ["_law_script"] (spLaw K) := by
  refine F.ok sc_law (fun vs H Q E h => ?_) fun cdv A outer s H vs Q E hr h => ?_
  · obtain ⟨a, ns, rfl, _⟩ := h
    rfl
  · obtain ⟨a0, ns, rfl, hS, hlen, k⟩ := h
    refine ⟨_, PSs.nox (pss_cons (ps_set (i := 1) sc_law.nd rfl (Or.inl rfl) (pe_callB call_len_seq (by rfl) T.z_len (by decide +kernel) (pa_cons (pe_slice sl_list (pv 0) (po_some pe_int) (po_some pe_int)) pa_nil)))
  (C8.pss_cut (ps_if (pt_cmpR op_eq (pv 1) pe_int (nomark _)) (pss_one (ps_set (i := 1) sc_law.nd rfl (Or.inl rfl) (pe_op op_add pe_int (pe_op op_mod (pe_callTy call_int1 (by rfl) T.z_int (by decide +kernel) (pa_cons (c_fn O_law_cell hr (by decide) T.g_law_cell pass0 (pa_cons (pv 0) (pa_cons pe_int pa_nil))) pa_nil)) pe_int))))
  pss_nil)
  (pss_cons (ps_setLc (i := 2) (own := [("_law_k", 3)]) (g := gName 3) (tt := tYes) (by rfl) sc_law.nd rfl rfl (sw_true rfl rfl rfl (by decide +kernel)) (pi_range1 rfl T.z_range (pa_cons (pv 1) pa_nil)) (blkOk_by (N := ["_law_script", "_law_many", "_law_parts", "_law_k", "_law_shares", "_law_part_here", "_law_scale", "_law_factor", "_law_common", "_law_top", "_law_total", "_law_scaled", "_law_floors", "_law_share", "_law_back", "_law_rest"]) (sc := defScope s_law) (by decide +kernel)) (fun _ _ _ _ _ => pg_name (i := 3) sc_law.nd rfl (Or.inl rfl)) (fun _ _ _ _ _ => pts_nil) (fun _ _ _ _ _ => (c_fn O_law_part hr (by decide) T.g_law_part pass0 (pa_cons (c_fn O_law_cell hr (by decide) T.g_law_cell pass0 (pa_cons (pv 0) (pa_cons (pe_op op_add pe_int (pv 3)) pa_nil))) pa_nil))))
  (pss_cons (ps_setLc (i := 4) (own := [("_law_part_here", 5)]) (g := gName 5) (tt := tYes) (by rfl) sc_law.nd rfl rfl (sw_true rfl rfl rfl (by decide +kernel)) (pi_list (pv 2)) (blkOk_by (N := ["_law_script", "_law_many", "_law_parts", "_law_k", "_law_shares", "_law_part_here", "_law_scale", "_law_factor", "_law_common", "_law_top", "_law_total", "_law_scaled", "_law_floors", "_law_share", "_law_back", "_law_rest"]) (sc := defScope s_law) (by decide +kernel)) (fun _ _ _ _ _ => pg_name (i := 5) sc_law.nd rfl (Or.inl rfl)) (fun _ _ _ _ _ => pts_nil) (fun _ _ _ _ _ => (c_mk T.m_Share O_Share_init2 hr (by decide) T.g_Share passL (pa_cons (pe_ix (ix_listK (K := K) rfl) (pv 5) pe_int (fun _ _ => rfl)) (pa_cons (pe_ix (ix_listK (K := K) rfl) (pv 5) pe_int (fun _ _ => rfl)) pa_nil)))))
  (pss_cons (ps_set (i := 6) sc_law.nd rfl (Or.inl rfl) (c_fn O_law_part hr (by decide) T.g_law_part pass0 (pa_cons (c_fn O_law_cell hr (by decide) T.g_law_cell pass0 (pa_cons (pv 0) (pa_cons pe_int pa_nil))) pa_nil)))
  (C8.pss_cut (ps_if (pt_cmpR op_eq (pe_ix ix_list (pv 6) pe_int (fun _ _ => rfl)) pe_int (nomark _)) (pss_one (ps_asg pe_int (pg_sub (pv 6) pe_int set_list)))
  pss_nil)
  (pss_cons (ps_set (i := 7) sc_law.nd rfl (Or.inl rfl) (c_mk T.m_Share O_Share_init2 hr (by decide) T.g_Share passL (pa_cons (pe_ix ix_list (pv 6) pe_int (fun _ _ => rfl)) (pa_cons (pe_ix ix_list (pv 6) pe_int (fun _ _ => rfl)) pa_nil))))
  (pss_cons (ps_set (i := 8) sc_law.nd rfl (Or.inr rfl) pe_int)
  (pss_cons (ps_for PassesOwn.never rfl (pi_range2 rfl T.z_range (pa_cons pe_int (pa_cons pe_int pa_nil))) (pg_name (i := 3) sc_law.nd rfl (Or.inl rfl))
  (pss_one (ps_set (i := 8) sc_law.nd rfl (Or.inr rfl) (pe_op op_fdiv (pe_op op_mulW (pv 8) (pv 3)) (c_fn O_law_gcd hr (by decide) T.g_law_gcd pass0 (pa_cons (pv 8) (pa_cons (pv 3) pa_nil)))))))
  (pss_cons (ps_set (i := 9) sc_law.nd rfl (Or.inl rfl) (pe_callB (cr_sum rfl) (by rfl) T.z_sum (by decide +kernel) (pa_cons (pe_lc (own := [("_law_part_here", 5)]) (g := gName 5) (tt := tYes) (by rfl) sc_law.nd (pi_list (pv 2)) (blkOk_by (N := ["_law_script", "_law_many", "_law_parts", "_law_k", "_law_shares", "_law_part_here", "_law_scale", "_law_factor", "_law_common", "_law_top", "_law_total", "_law_scaled", "_law_floors", "_law_share", "_law_back", "_law_rest"]) (sc := defScope s_law) (by decide +kernel)) (fun _ _ _ _ _ => pg_name (i := 5) sc_law.nd rfl (Or.inl rfl)) (fun _ _ _ _ _ => pts_nil) (fun _ _ _ _ _ => (pe_op op_mulW (pe_ix (ix_listK (K := K) rfl) (pv 5) pe_int (fun _ _ => rfl)) (pe_op op_fdiv (pv 8) (pe_ix (ix_listK (K := K) rfl) (pv 5) pe_int (fun _ _ => rfl)))))) pa_nil)))
  (pss_cons (ps_set (i := 10) sc_law.nd rfl (Or.inl rfl) (c_mk T.m_Share O_Share_init1 hr (by decide) T.g_Share passL (pa_cons pe_int pa_nil)))
  (pss_cons (ps_set (i := 11) sc_law.nd rfl (Or.inl rfl) pe_int)
  (pss_cons (ps_set (i := 12) sc_law.nd rfl (Or.inl rfl) pe_int)
  (pss_cons (ps_for PassesOwn.never rfl (pi_list (pv 4)) (pg_name (i := 13) sc_law.nd rfl (Or.inl rfl))
  (pss_cons (ps_set (i := 10) sc_law.nd rfl (Or.inl rfl) (pe_op (op_Ad T.toSTxt M O_add O_radd hr (by decide)) (pv 10) (pv 13)))
  (pss_cons (ps_set (i := 11) sc_law.nd rfl (Or.inl rfl) (pe_op (op_Ad T.toSTxt M O_add O_radd hr (by decide)) (pe_op (op_Mu T.toSTxt M O_mul O_rmul hr (by decide)) (pv 7) (pv 13)) (pv 11)))
  (pss_one (ps_set (i := 12) sc_law.nd rfl (Or.inl rfl) (pe_op op_add (pv 12) (c_me0 rfl (pv 13) T.c_Share M.m_floor O_Share_floor hr (by decide) pass0)))))))
  (pss_cons (ps_set (i := 14) sc_law.nd rfl (Or.inl rfl) pe_int)
  (pss_cons (ps_for PassesOwn.never rfl (pi_range1 rfl T.z_range (pa_cons (pv 1) pa_nil)) (pg_name (i := 3) sc_law.nd rfl (Or.inl rfl))
  (pss_one (ps_set (i := 14) sc_law.nd rfl (Or.inl rfl) (pe_op (op_Ad T.toSTxt M O_add O_radd hr (by decide)) (pe_ix ix_list (pv 4) (pe_op op_sub (pe_op op_sub (pv 1) pe_int) (pv 3)) (fun _ _ => rfl)) (pv 14)))))
  (pss_cons (ps_if (PW.pt (pw_or (pt_not (pt_val (c_fn O_law_is_share hr (by decide) T.g_law_is_share pass0 (pa_cons (pv 10) (pa_cons (pv 9) (pa_cons (pv 8) pa_nil)))))) (pw_or1 (pt_not (pt_val (c_fn O_law_is_share hr (by decide) T.g_law_is_share pass0 (pa_cons (pv 14) (pa_cons (pv 9) (pa_cons (pv 8) pa_nil))))))))) (pss_one (ps_ret pe_bl))
  pss_nil)
  (pss_cons (ps_if (PW.pt (pw_or (pt_not (pt_val (c_fn O_law_is_share hr (by decide) T.g_law_is_share pass0 (pa_cons (pv 11) (pa_cons (pe_op op_mulW (pv 9) (pe_ix ix_list (pv 6) pe_int (fun _ _ => rfl))) (pa_cons (pe_op op_mulW (pv 8) (pe_ix ix_list (pv 6) pe_int (fun _ _ => rfl))) pa_nil)))))) (pw_or1 (pt_cmpR (op_NeW T.toSTxt CM O_ne hr (by decide)) (pe_op (op_Mu T.toSTxt M O_mul O_rmul hr (by decide)) (pv 7) (pv 10)) (pv 11) (nomark _))))) (pss_one (ps_ret pe_bl))
  pss_nil)
  (pss_cons (ps_if (pt_not (pt_val (c_fn O_law_is_share hr (by decide) T.g_law_is_share pass0 (pa_cons (pe_op (op_Mu T.toSTxt M O_mul O_rmul hr (by decide)) (c_me rfl (pv 10) T.c_Share M.m_over O_Share_over hr (by decide) passL (pa_cons (pv 7) pa_nil)) (pv 7)) (pa_cons (pv 9) (pa_cons (pv 8) pa_nil)))))) (pss_one (ps_ret pe_bl))
  pss_nil)
  (pss_cons (ps_if (PW.pt (pw_or (pt_not (pt_val (c_fn O_law_is_integer hr (by decide) T.g_law_is_integer pass0 (pa_cons (pv 12) pa_nil)))) (pw_or (pt_not (pt_cmpR op_le (pv 12) (c_me0 rfl (pv 10) T.c_Share M.m_floor O_Share_floor hr (by decide) pass0) (nomark _))) (pw_or1 (pt_not (pt_cmpR op_lt (c_me0 rfl (pv 10) T.c_Share M.m_floor O_Share_floor hr (by decide) pass0) (pe_op op_add (pv 12) (pv 1)) (nomark _))))))) (pss_one (ps_ret pe_bl))
  pss_nil)
  (pss_cons (ps_set (i := 15) sc_law.nd rfl (Or.inl rfl) (pv 10))
  (pss_cons (ps_for PassesOwn.never rfl (pi_list (pv 4)) (pg_name (i := 13) sc_law.nd rfl (Or.inl rfl))
  (pss_one (ps_set (i := 15) sc_law.nd rfl (Or.inl rfl) (pe_op (op_Su T.toSTxt M O_sub O_rsub hr (by decide)) (pv 15) (pv 13)))))
  (pss_one (ps_ret (pe_and (c_fn O_law_is_share hr (by decide) T.g_law_is_share pass0 (pa_cons (pv 15) (pa_cons pe_int (pa_cons pe_int pa_nil)))) (pe_and (pe_cmpR (op_EqW T.toSTxt CM O_eq hr (by decide)) (pv 15) pe_int (nomark _)) (pe_one (pe_cmpR op_eq (pe_op (op_Fd (E := E0) T.toSTxt M O_fdv O_rfdv hr (by decide) passL) (pv 10) pe_int) (c_me0 rfl (pv 10) T.c_Share M.m_floor O_Share_floor hr (by decide) pass0) (nomark _))))))))))))))))))))))))))))), ?_⟩
    refine ⟨_, rfl, 2, rfl, 62, rfl, a0, _, rfl, hS, fun p0 np0 => ⟨p0, _, rfl, .inl (SqL.of upd_same), ?_⟩⟩
    have hcut := cutV_length (ns.map V.int) (some 2) (some 62)
    rw [List.length_map] at hcut
    generalize (cutV (ns.map V.int) (some 2) (some 62)) = cut at hcut ⊢
    have hS0 : SqL K (upd H p0 (.lst cut)) a0 (ns.map V.int) := Same.seq (same_new np0) hS
    generalize upd H p0 (.lst cut) = H0 at hS0 ⊢
    refine ⟨fun σ' H' => H' = H0 ∧ ∃ m : Nat, 0 < m ∧ m ≤ 63 ∧ σ' = [some (.ref a0), some (.int (m : Int)), none, none, none, none, none, none, none, none, none, none, none, none, none, none], ?_, ?_⟩
    · refine ⟨_, rfl, rfl, _, rfl, ite2 (fun _ => ?_) fun hz => ?_⟩
      · refine ⟨_, rfl, a0, ns, 0, rfl, hS0, by decide, fun c => .inl ⟨c, rfl, _, 9, rfl, rfl, (by show (0 : Int) < 9; decide), 1, _, rfl, rfl, ?_⟩⟩
        have h0 := Int.emod_nonneg c (b := 9) (by decide)
        have h1 := Int.emod_lt_of_pos c (b := 9) (by decide)
        refine ⟨rfl, (1 + c % 9).toNat, by omega, by omega, ?_⟩
        rw [Int.toNat_of_nonneg (by omega)]
        rfl
      · refine ⟨rfl, cut.length, ?_, by omega, rfl⟩
        rcases Nat.eq_zero_or_pos cut.length with h | h
        · exact absurd (decide_eq_true (by rw [h]; rfl)) hz
        · exact h
    rintro σ' H1 ⟨rfl, m, m0, m1, rfl⟩
    clear hcut np0
    -- the parts
    refine ⟨_, rfl, (m : Int), rfl, by omega, by omega, fun D nD => lc_range (lo := 0) (n := (m : Int).toNat) (fun i H' => Same H1 H' ∧ ∃ Ps : List (Addr × Int × Int), Ps.length = i ∧ PartsAt H' D Ps) ⟨same_new nD, [], rfl, upd_same, fun _ h => nomatch h⟩ ?_ ?_⟩
    · rintro i H' hi ⟨sg, Ps, hl, hP⟩
      have e2 : (2 : Int) + (0 + (i : Int)) = ((2 + i : Nat) : Int) := by omega
      refine ⟨rfl, _, rfl, _, rfl, 2, _, rfl, rfl, a0, ns, 2 + i, (congrArg (fun z => [V.ref a0, V.int z]) e2), sg.seq hS0, by omega, fun c => ⟨c, rfl, fun l t b nl b0 b1 ht => ?_⟩⟩
      refine ⟨_, (same_new nl) _ _ hP.1, ?_, same_app sg (same_new nl) nD, Ps ++ [(l, t, b)], by rw [List.length_append, hl]; rfl, hP.add nl b0 b1 ht⟩
      rw [List.length_map, hl]
      have : i < 63 := by omega
      exact Nat.lt_of_lt_of_le this (by decide)
    rintro H2 ⟨s12, Ps, hPl, hPs⟩
    have hS2 := s12.seq hS0
    clear hS0 nD
    rw [Int.toNat_natCast] at hPl
    -- the shares
    refine ⟨_, rfl, D, rfl, ⟨_, SqL.of hPs.1⟩, fun D2 nD2 => lc_list (K := K) (a := D) (xs := Ps.map fun x => V.ref x.1) (fun i H' => Same H2 H' ∧ ∃ Ss : List (Addr × Int × Int), Ss.map (·.2) = (Ps.take i).map (·.2) ∧ SharesAt (CS K) H' D2 Ss) ⟨same_new nD2, [], rfl, upd_same, fun _ h => nomatch h⟩ (fun i H' _ h => h.1.seq (SqL.of hPs.1)) ?_ ?_⟩
    · rintro i x H' hi ⟨sg, Ss, hl, hQ⟩
      rw [List.getElem?_map] at hi
      obtain ⟨⟨l, t, b⟩, hx, rfl⟩ : ∃ y, Ps[i]? = some y ∧ x = .ref y.1 := by
        cases hq : Ps[i]? with
        | none => rw [hq] at hi; cases hi
        | some y =>
          rw [hq] at hi
          exact ⟨y, rfl, (Option.some.inj hi).symm⟩
      obtain ⟨g1, g2, g3, g4, g5⟩ := hPs.2 _ (List.mem_of_getElem? hx)
      dsimp only at g1 g2 g3 g4 g5
      have g1' := sg _ _ g1
      have hlen : Ss.length = i := by
        have h := congrArg List.length hl
        have hi2 := (List.getElem?_eq_some_iff.mp hx).1
        rw [List.length_map, List.length_map, List.length_take] at h
        omega
      have hlt : i < Ps.length := (List.getElem?_eq_some_iff.mp hx).1
      refine ⟨rfl, _, rfl, l, _, 0, .int t, rfl, rfl, SqL.of g1', atI0, _, rfl, l, _, 1, .int b, rfl, rfl, SqL.of g1', atI1, fun p dx np ndx ne => ⟨p, dx, _, _, rfl, upd_same, .inl ⟨t, b, rfl, rfl, Int.ne_of_gt g3, (bit40 g3 g4).mono (by decide), rfl, ?_⟩⟩⟩
      have sm := same_make2 (o1 := .own p) (o2 := .ins (CS K) dx []) (o3 := .ins (CS K) dx (shf (nT t b) (nB t b))) np ndx
      refine ⟨_, sm _ _ hQ.1, ?_, same_app sg sm nD2, Ss ++ [(p, t, b)], ?_, hQ.add np ndx g3 g4 g5⟩
      · rw [List.length_map, hlen]
        have : i < 63 := by omega
        exact Nat.lt_of_lt_of_le this (by decide)
      · rw [List.map_append, hl, List.take_add_one, List.map_append, hx]
        rfl
    rintro H3 ⟨s23, Ss, hSs, hQ⟩
    rw [List.length_map, List.take_length] at hSs
    have hP3 := hPs.ext s23
    have hS3 := s23.seq hS2
    clear hPs hS2 nD2 s23 s12
    -- the scale
    refine ⟨_, rfl, a0, ns, 1, rfl, hS3, by decide, fun cs => ⟨cs, rfl, fun ls s0 s1 nls sp s40 bs0 => ?_⟩⟩
    have sls := same_new (o := .lst [.int s0, .int s1]) nls
    have hP4 := hP3.ext sls
    have hQ4 := hQ.ext sls
    have hs4 : (upd H3 ls (.lst [.int s0, .int s1])) ls = some (.lst [.int s0, .int s1]) := upd_same
    generalize hG : upd H3 ls (.lst [.int s0, .int s1]) = H4 at hP4 hQ4 hs4 ⊢
    refine ⟨fun σ' H' => ∃ z0 : Int, z0 ≠ 0 ∧ Bit 134 z0 ∧ H' ls = some (.lst [.int z0, .int s1]) ∧ Same H3 H' ∧ σ' = [some (.ref a0), some (.int (m : Int)), some (.ref D), none, some (.ref D2), none, some (.ref ls), none, none, none, none, none, none, none, none, none], ?_, ?_⟩
    · refine ⟨_, rfl, ls, _, 0, .int s0, rfl, rfl, SqL.of hs4, atI0, rfl, _, rfl, ite2 (fun _ => ?_) fun hz => ?_⟩
      · refine ⟨_, rfl, ls, _, 0, 0, rfl, rfl, hs4, ixN0, ?_⟩
        refine ⟨7, by decide, (show (7 : Int).natAbs < 2 ^ 134 by decide), upd_same, fun b o e => ?_, rfl⟩
        rw [upd_ne (ne_of_none e nls), ← hG]
        exact sls _ _ e
      · exact ⟨s0, fun e => hz (decide_eq_true (by rw [e])), bs0, hs4, by rw [← hG]; exact sls, rfl⟩
    clear hP4 hQ4 hs4 hG sls H4
    rintro σ' H4 ⟨z0, zn, bz, hs4, s34, rfl⟩
    clear bs0 s0
    have hP4 := hP3.ext s34
    have hQ4 := hQ.ext s34
    clear hP3 hQ hS3 s34 nls
    -- the factor
    refine ⟨_, rfl, ls, _, 0, .int z0, rfl, rfl, SqL.of hs4, atI0, _, rfl, ls, _, 1, .int s1, rfl, rfl, SqL.of hs4, atI1, fun pf df nf ndf ne => ⟨pf, df, _, _, rfl, upd_same, .inl ⟨z0, s1, rfl, rfl, Int.ne_of_gt sp, (bit40 sp s40).mono (by decide), rfl, ?_⟩⟩⟩
    have s5 := same_make2 (o1 := .own pf) (o2 := .ins (CS K) df []) (o3 := .ins (CS K) df (shf (nT z0 s1) (nB z0 s1))) nf ndf
    have hs5 := s5 _ _ hs4
    have hP5 := hP4.ext s5
    have hQ5 := hQ4.ext s5
    have hF5 : Sh (CS K) (upd (upd (upd H4 df (.own pf)) pf (.ins (CS K) df [])) pf (.ins (CS K) df (shf (nT z0 s1) (nB z0 s1)))) pf (nT z0 s1) (nB z0 s1) := ⟨df, upd_same⟩
    generalize upd (upd (upd H4 df (.own pf)) pf (.ins (CS K) df [])) pf (.ins (CS K) df (shf (nT z0 s1) (nB z0 s1))) = H5 at hs5 hP5 hQ5 hF5 ⊢
    clear hs4 hP4 hQ4 s5 nf ndf ne
    -- the common bottom
    refine ⟨1, 41, rfl, by decide, for_range (lo := 1) (n := 40) (fun i σ H' => H' = H5 ∧ ∃ v3 : Option V, σ = [some (.ref a0), some (.int (m : Int)), some (.ref D), v3, some (.ref D2), none, some (.ref ls), some (.ref pf), some (.int (lc i)), none, none, none, none, none, none, none]) ⟨rfl, none, rfl⟩ ?_ ?_⟩
    · rintro i σ H' hi ⟨rfl, v3, rfl⟩
      have hk : (1 + (i : Int)).natAbs = i + 1 := by omega
      have bk : Bit 6 (1 + (i : Int)) := by
        unfold Bit
        rw [show (2 : Nat) ^ 6 = 64 from rfl]
        omega
      have g0 : 0 < Nat.gcd (lc i).natAbs (1 + (i : Int)).natAbs := Nat.gcd_pos_of_pos_right _ (by omega)
      have g1 : Nat.gcd (lc i).natAbs (1 + (i : Int)).natAbs ≤ (1 + (i : Int)).natAbs := Nat.gcd_le_right _ (by omega)
      refine ⟨_, rfl, _, rfl, lc i, 1 + (i : Int), rfl, rfl, (lc_bit (by omega)).wm bk (by decide) (by decide) (by decide), _, rfl, _, rfl, lc i, 1 + (i : Int), rfl, bk.mono (by decide), _, _, rfl, rfl, ⟨by omega, by omega⟩, ?_⟩
      exact ⟨rfl, _, rfl⟩
    rintro σ H5 ⟨rfl, v3, rfl⟩
    rw [lc_40]
    obtain ⟨ps, eps⟩ : ∃ ps, ps = Ps.map (·.2) := ⟨_, rfl⟩
    have lps : ps.length = m := by rw [eps, List.length_map, hPl]
    have gps : Good ps := by
      intro x hx
      rw [eps] at hx
      obtain ⟨y, hy, rfl⟩ := List.mem_map.mp hx
      exact (hP5.2 y hy).2.2
    have hSs' : Ss.map (·.2) = ps := by rw [hSs, eps]
    -- the top
    refine ⟨_, rfl, D, rfl, ⟨_, SqL.of hP5.1⟩, fun D3 nD3 => lc_list (K := K) (a := D) (xs := Ps.map fun x => V.ref x.1) (fun i H' => Same H5 H' ∧ H' D3 = some (.lst ((Ps.take i).map fun x => V.int (x.2.1 * (LL / x.2.2))))) ⟨same_new nD3, upd_same⟩ (fun i H' _ h => h.1.seq (SqL.of hP5.1)) ?_ ?_⟩
    · rintro i x H' hi ⟨sg, hD3⟩
      rw [List.getElem?_map] at hi
      obtain ⟨⟨l, t, b⟩, hx, rfl⟩ : ∃ y, Ps[i]? = some y ∧ x = .ref y.1 := by
        cases hq : Ps[i]? with
        | none => rw [hq] at hi; cases hi
        | some y =>
          rw [hq] at hi
          exact ⟨y, rfl, (Option.some.inj hi).symm⟩
      obtain ⟨g1, g2, g3, g4, g5⟩ := hP5.2 _ (List.mem_of_getElem? hx)
      dsimp only at g1 g2 g3 g4 g5
      have g1' := sg _ _ g1
      have hlt : i < Ps.length := (List.getElem?_eq_some_iff.mp hx).1
      have bw : Bit 53 (LL / b) := LL_bit.le (Int.natAbs_ediv_le_natAbs _ _)
      refine ⟨rfl, _, rfl, l, _, 0, .int t, rfl, rfl, SqL.of g1', atI0, _, rfl, _, rfl, l, _, 1, .int b, rfl, rfl, SqL.of g1', atI1, LL, b, rfl, rfl, ⟨g3, by omega⟩, t, LL / b, rfl, rfl, g5.wm bw (by decide) (by decide) (by decide), ?_⟩
      refine ⟨_, hD3, ?_, same_app sg (Same.refl _) nD3, ?_⟩
      · rw [List.length_map, List.length_take]
        have : min i Ps.length < 63 := by omega
        exact Nat.lt_of_lt_of_le this (by decide)
      · rw [upd_same, List.take_add_one, List.map_append, hx]
        rfl
    rintro H6 ⟨s56, hD3⟩
    rw [List.length_map, List.take_length] at hD3
    have hD3' : H6 D3 = some (.lst ((Ps.map fun x => x.2.1 * (LL / x.2.2)).map V.int)) := by rw [hD3, List.map_map]; rfl
    refine ⟨D3, _, rfl, SqL.of hD3', ?_⟩
    have eT : (Ps.map fun x => x.2.1 * (LL / x.2.2)).sum = TP ps := by rw [eps]; unfold TP; rw [List.map_map]; rfl
    rw [eT]
    have hs6 := s56 _ _ hs5
    have hQ6 := hQ5.ext s56
    have hF6 := hF5.ext s56
    clear hD3 hD3' eT s56 nD3 hs5 hQ5 hF5 hP5 eps
    -- the loop's start
    refine fun r dr nr ndr ne => ⟨r, dr, .int 0, .int 1, rfl, upd_same, .inl ⟨0, 1, rfl, rfl, by decide, (show (1 : Int).natAbs < 2 ^ 4000 by decide), rfl, ?_⟩⟩
    have s7 := same_make2 (o1 := .own r) (o2 := .ins (CS K) dr []) (o3 := .ins (CS K) dr (shf (nT 0 1) (nB 0 1))) nr ndr
    have hR7 : Sh (CS K) (upd (upd (upd H6 dr (.own r)) r (.ins (CS K) dr [])) r (.ins (CS K) dr (shf (nT 0 1) (nB 0 1)))) r (nT 0 1) (nB 0 1) := ⟨dr, upd_same⟩
    generalize upd (upd (upd H6 dr (.own r)) r (.ins (CS K) dr [])) r (.ins (CS K) dr (shf (nT 0 1) (nB 0 1))) = H7 at s7 hR7 ⊢
    rw [nT_one, nB_one] at hR7
    have hs7 := s7 _ _ hs6
    have hQ7 := hQ6.ext s7
    have hF7 := hF6.ext s7
    clear hs6 hQ6 hF6 s7 nr ndr ne
    have lSs : Ss.length = m := by rw [← lps, ← hSs', List.length_map]
    have v00 : ∀ {M : Int}, 0 < M → Val 0 1 0 M := fun {M} h => by
      have := val_int 0 h
      rw [Int.zero_mul] at this
      exact this
    have VF := val_of (t := z0) sp
    have bz' : Bit 440 (nT z0 s1) := (VF.bp bz).mono (by decide)
    have bs' : Bit 440 (nB z0 s1) := (VF.bq (bit40 sp s40)).mono (by decide)
    have bLs : Bit 59 (LL * s1) := LL_bit.mul (bit40 sp s40)
    have one : Bit 440 1 := (show (1 : Int).natAbs < 2 ^ 440 by decide)
    have gtk : ∀ i, Good (ps.take i) := fun i x hx => gps x (List.mem_of_mem_take hx)
    have ltk : ∀ i, (ps.take i).length ≤ 63 := fun i => by rw [List.length_take]; omega
    have nth : ∀ (i : Nat) (x : V), (Ss.map fun x => V.ref x.1)[i]? = some x → ∃ (l : Addr) (t b : Int), x = .ref l ∧ (l, t, b) ∈ Ss ∧ i < m ∧ ps[i]? = some (t, b) ∧ ps.take (i + 1) = ps.take i ++ [(t, b)] := by
      intro i x hi
      rw [List.getElem?_map] at hi
      obtain ⟨⟨l, t, b⟩, hx, rfl⟩ : ∃ y, Ss[i]? = some y ∧ x = .ref y.1 := by
        cases hq : Ss[i]? with
        | none => rw [hq] at hi; cases hi
        | some y =>
          rw [hq] at hi
          exact ⟨y, rfl, (Option.some.inj hi).symm⟩
      have hp : ps[i]? = some (t, b) := by rw [← hSs', List.getElem?_map, hx]; rfl
      refine ⟨l, t, b, rfl, List.mem_of_getElem? hx, by rw [← lSs]; exact (List.getElem?_eq_some_iff.mp hx).1, hp, ?_⟩
      rw [List.take_add_one, hp]
      rfl
    refine ⟨_, rfl, D2, rfl, ⟨_, SqL.of hQ7.1⟩, for_list (K := K) (a := D2) (xs := Ss.map fun x => V.ref x.1) (fun i σ H' => Same H7 H' ∧ ∃ (pt : Addr) (p q a b : Int) (u : V) (v13 : Option V), Sh (CS K) H' pt p q ∧ Val p q (TP (ps.take i)) LL ∧ Nm (CS K) H' u a b ∧ Val a b (TP (ps.take i) * z0) (LL * s1) ∧ (i = 0 ∨ ∃ pu, u = .ref pu) ∧
      σ = [some (.ref a0), some (.int (m : Int)), some (.ref D), v3, some (.ref D2), none, some (.ref ls), some (.ref pf), some (.int LL), some (.int (TP ps)), some (.ref pt), some u, some (.int (FP (ps.take i))), v13, none, none])
      ⟨Same.refl _, r, 0, 1, 0, 1, .int 0, none, hR7, v00 LL_pos, .inr ⟨rfl, rfl⟩, ?_, .inl rfl, rfl⟩ (fun i σ H' _ h => h.1.seq (SqL.of hQ7.1)) ?_ ?_⟩
    · show Val 0 1 (0 * z0) (LL * s1)
      rw [Int.zero_mul]
      exact v00 (Int.mul_pos LL_pos sp)
    · rintro i x σ H' hi ⟨sg, pt, p, q, a, b, u, v13, hT, VT, hU, VU, _, rfl⟩
      obtain ⟨l, t, d, rfl, hmem, him, hpi, htk⟩ := nth i x hi
      obtain ⟨⟨dl, hl⟩, g2, g3, g4, g5⟩ := hQ7.2 _ hmem
      dsimp only at hl g2 g3 g4 g5
      have VS := val_of (t := t) g3
      have hSh : Sh (CS K) H' l (nT t d) (nB t d) := ⟨dl, sg _ _ hl⟩
      have bt : Bit 134 (nT t d) := VS.bp g5
      have bd : Bit 6 (nB t d) := VS.bq (bit40 g3 g4)
      have bT : Bit 193 (TP (ps.take i)) := TP_bit (gtk i) (ltk i)
      have bp : Bit 193 p := VT.bp bT
      have bq : Bit 53 q := VT.bq LL_bit
      have ba : Bit 327 a := VU.bp (bT.mul bz)
      have bb : Bit 59 b := VU.bq bLs
      have hw := LL_div g3 g4
      have Tw : Two (CS K) H' (.ref pt) (.ref l) p q (nT t d) (nB t d) := ⟨.inl ⟨pt, rfl, hT⟩, .inl ⟨l, rfl, hSh⟩, .inl ⟨pt, rfl⟩, VT.nf.pos, VS.nf.pos, bp.mono (by decide), bq.mono (by decide), bt.mono (by decide), bd.mono (by decide)⟩
      refine ⟨_, rfl, _, rfl, rd_add Tw fun Ha r1 p1 q1 sa R1 => ?_⟩
      have hFa := (hF7.ext sg).ext sa
      have hSa := hSh.ext sa
      have Tm : Two (CS K) Ha (.ref pf) (.ref l) (nT z0 s1) (nB z0 s1) (nT t d) (nB t d) := ⟨.inl ⟨pf, rfl, hFa⟩, .inl ⟨l, rfl, hSa⟩, .inl ⟨pf, rfl⟩, VF.nf.pos, VS.nf.pos, bz', bs', bt.mono (by decide), bd.mono (by decide)⟩
      refine ⟨_, rfl, _, rfl, rd_mul Tm fun Hb r2 p2 q2 sb R2 => ?_⟩
      have V2 : Val p2 q2 (z0 * t) (s1 * d) := val_mul VF VS R2.nf R2.eq
      have b2 : Bit 268 p2 := V2.bp (bz.mul g5)
      have c2 : Bit 12 q2 := V2.bq ((bit40 sp s40).mul (bit40 g3 g4))
      have Ta : Two (CS K) Hb (.ref r2) u p2 q2 a b := ⟨.inl ⟨r2, rfl, R2.sh⟩, (hU.ext sa).ext sb, .inl ⟨r2, rfl⟩, V2.nf.pos, VU.nf.pos, b2.mono (by decide), c2.mono (by decide), ba.mono (by decide), bb.mono (by decide)⟩
      refine ⟨_, rfl, rd_add Ta fun Hc r3 p3 q3 sc R3 => ?_⟩
      have hSc := (hSa.ext sb).ext sc
      obtain ⟨dc, hc⟩ := id hSc
      have sabc := sa.trans (sb.trans sc)
      refine ⟨_, rfl, _, rfl, l, dc, _, rfl, hc, shf_no _ _ (by decide +kernel) (by decide +kernel), l, nT t d, nB t d, rfl, hSc, VS.nf.pos, bd.mono (by decide), _, _, rfl, rfl, ?_⟩
      refine ⟨sg.trans sabc, r1, p1, q1, p3, q3, .ref r3, some (.ref l), (R1.sh.ext sb).ext sc, ?_, .inl ⟨r3, rfl, R3.sh⟩, ?_, .inr ⟨r3, rfl⟩, ?_⟩
      · rw [htk, TP_app]
        exact val_add VT VS hw R1.nf R1.eq
      · rw [htk, TP_app]
        have e := R3.eq
        rw [Int.mul_comm q2 b, Int.add_comm (p2 * b)] at e
        have hw2 : s1 * d * (LL / d) = LL * s1 := by rw [Int.mul_assoc, hw, Int.mul_comm]
        have := val_add VU V2 hw2 R3.nf e
        have e2 : TP (ps.take i) * z0 + z0 * t * (LL / d) = (TP (ps.take i) + t * (LL / d)) * z0 := by grind
        rw [e2] at this
        exact this
      · rw [htk, FP_app, ← val_floor VS]
        rfl
    rintro σ H8 ⟨s78, pt, p, q, a, b, u, v13, hT, VT, hU, VU, hu, rfl⟩
    rw [List.length_map, lSs, ← lps, List.take_length] at VT VU
    obtain ⟨pu, rfl⟩ : ∃ pu, u = .ref pu := hu.resolve_left (by rw [List.length_map, lSs]; omega)
    have hU8 : Sh (CS K) H8 pu a b := by
      rcases hU with ⟨p', e, h⟩ | ⟨e, _⟩
      · cases e
        exact h
      · cases e
    have hs8 := s78 _ _ hs7
    have hQ8 := hQ7.ext s78
    have hF8 := hF7.ext s78
    clear hs7 hQ7 hF7 s78 hU hR7
    have bT : Bit 193 (TP ps) := TP_bit gps (by omega)
    -- from behind
    refine ⟨_, rfl, (m : Int), rfl, by omega, by omega, for_range (lo := 0) (n := (m : Int).toNat) (fun i σ H' => Same H8 H' ∧ ∃ (v3' : Option V) (bv : V) (c e : Int), Nm (CS K) H' bv c e ∧ Val c e (TP (ps.drop (m - i))) LL ∧ (i = 0 ∨ ∃ pb, bv = .ref pb) ∧
      σ = [some (.ref a0), some (.int (m : Int)), some (.ref D), v3', some (.ref D2), none, some (.ref ls), some (.ref pf), some (.int LL), some (.int (TP ps)), some (.ref pt), some (.ref pu), some (.int (FP ps)), v13, some bv, none])
      ⟨Same.refl _, v3, .int 0, 0, 1, .inr ⟨rfl, rfl⟩, ?_, .inl rfl, ?_⟩ ?_ ?_⟩
    · rw [Nat.sub_zero, List.drop_of_length_le (by omega)]
      exact v00 LL_pos
    · rw [List.length_map, lSs, ← lps, List.take_length]
      rfl
    · rintro i σ H' hi ⟨sg, v3', bv, c, e, hB, VB, _, rfl⟩
      have him : i < m := by omega
      have hj : m - 1 - i < Ss.length := by omega
      have hj2 : m - 1 - i < ps.length := by omega
      have hx : (Ss.map fun x => V.ref x.1)[m - 1 - i]? = some (V.ref Ss[m - 1 - i].1) := by
        rw [List.getElem?_map, List.getElem?_eq_getElem hj]
        rfl
      obtain ⟨l, t, d, hl0, hmem, _, hpi, _⟩ := nth _ _ hx
      obtain ⟨⟨dl, hl⟩, g2, g3, g4, g5⟩ := hQ8.2 _ hmem
      dsimp only at hl g2 g3 g4 g5
      have at_ : atI (Ss.map fun x => V.ref x.1) ((m : Int) - 1 - (0 + (i : Int))) = some (.ref l) := by
        rw [show (m : Int) - 1 - (0 + (i : Int)) = ((m - 1 - i : Nat) : Int) by omega]
        refine atI_nat ?_
        rw [hx, hl0]
      have hdr : ps.drop (m - (i + 1)) = (t, d) :: ps.drop (m - i) := by
        have h1 : m - (i + 1) = m - 1 - i := by omega
        have h2 : m - 1 - i + 1 = m - i := by omega
        rw [h1, List.drop_eq_getElem_cons hj2, h2]
        rw [List.getElem?_eq_getElem hj2] at hpi
        rw [Option.some.inj hpi]
      have VS := val_of (t := t) g3
      have hSh : Sh (CS K) H' l (nT t d) (nB t d) := ⟨dl, sg _ _ hl⟩
      have bt : Bit 134 (nT t d) := VS.bp g5
      have bd : Bit 6 (nB t d) := VS.bq (bit40 g3 g4)
      have bTd : Bit 193 (TP (ps.drop (m - i))) := TP_bit (fun x hx => gps x (List.mem_of_mem_drop hx)) (by rw [List.length_drop]; omega)
      have bc : Bit 193 c := VB.bp bTd
      have be : Bit 53 e := VB.bq LL_bit
      have Tw : Two (CS K) H' (.ref l) bv (nT t d) (nB t d) c e := ⟨.inl ⟨l, rfl, hSh⟩, hB, .inl ⟨l, rfl⟩, VS.nf.pos, VB.nf.pos, bt.mono (by decide), bd.mono (by decide), bc.mono (by decide), be.mono (by decide)⟩
      refine ⟨_, rfl, _, rfl, (m : Int), 1, rfl, rfl, _, rfl, _, _, rfl, rfl, D2, _, _, .ref l, rfl, rfl, SqL.of (sg _ _ hQ8.1), at_, _, rfl, rd_add Tw fun Ha r1 p1 q1 sa R1 => ?_⟩
      refine ⟨sg.trans sa, _, .ref r1, p1, q1, .inl ⟨r1, rfl, R1.sh⟩, ?_, .inr ⟨r1, rfl⟩, rfl⟩
      rw [hdr, TP_cons, Int.add_comm]
      have ee := R1.eq
      rw [Int.mul_comm (nB t d) e, Int.add_comm (nT t d * e)] at ee
      exact val_add VB VS (LL_div g3 g4) R1.nf ee
    rintro σ H9 ⟨s89, v3', bv, c, e, hB, VB, hbv, rfl⟩
    rw [Int.toNat_natCast] at VB hbv
    rw [Nat.sub_self, List.drop_zero] at VB
    obtain ⟨pb, rfl⟩ : ∃ pb, bv = .ref pb := hbv.resolve_left (by omega)
    have hB9 : Sh (CS K) H9 pb c e := by
      rcases hB with ⟨p', e', h⟩ | ⟨e', _⟩
      · cases e'
        exact h
      · cases e'
    have hs9 := s89 _ _ hs8
    have hQ9 := hQ8.ext s89
    have hF9 := hF8.ext s89
    have hT9 := hT.ext s89
    have hU9 := hU8.ext s89
    clear hs8 hQ8 hF8 hT hU8 hB s89
    have bp : Bit 193 p := VT.bp bT
    have bq : Bit 53 q := VT.bq LL_bit
    have bc : Bit 193 c := VB.bp bT
    have be : Bit 53 e := VB.bq LL_bit
    have ba : Bit 327 a := VU.bp (bT.mul bz)
    have bb : Bit 59 b := VU.bq bLs
    refine ⟨_, rfl, _, rfl, _, rfl, pt, p, q, TP ps, LL, rfl, hT9, VT.nf, bq.mono (by decide), bp.mono (by decide), bT.mono (by decide), LL_bit.mono (by decide), VT.eq, true, rfl, iteF ?_⟩
    refine ⟨_, rfl, _, rfl, _, rfl, pb, c, e, TP ps, LL, rfl, hB9, VB.nf, be.mono (by decide), bc.mono (by decide), bT.mono (by decide), LL_bit.mono (by decide), VB.eq, true, rfl, iteF ?_⟩
    have fe1 : ∀ {x y u v T N : Int}, Val x y T N → Val u v T N → fEq x y u v = true := fun {x y u v T N} h1 h2 => by
      obtain ⟨g1, g2⟩ := val_eq h1 h2
      unfold fEq
      rw [g1, g2, decide_eq_true rfl, decide_eq_true rfl]
      rfl
    have bs1 : Bit 6 s1 := bit40 sp s40
    refine ⟨_, rfl, _, rfl, _, rfl, ls, _, 0, .int z0, rfl, rfl, SqL.of hs9, atI0, TP ps, z0, rfl, rfl, bT.wm bz (by decide) (by decide) (by decide), _, rfl, _, rfl, ls, _, 1, .int s1, rfl, rfl, SqL.of hs9, atI1, LL, s1, rfl, rfl, LL_bit.wm bs1 (by decide) (by decide) (by decide), pu, a, b, TP ps * z0, LL * s1, rfl, hU9, VU.nf, bb.mono (by decide), ba.mono (by decide), (bT.mul bz).mono (by decide), bLs.mono (by decide), VU.eq, true, rfl, iteF ?_⟩
    have Tm : Two (CS K) H9 (.ref pf) (.ref pt) (nT z0 s1) (nB z0 s1) p q := ⟨.inl ⟨pf, rfl, hF9⟩, .inl ⟨pt, rfl, hT9⟩, .inl ⟨pf, rfl⟩, VF.nf.pos, VT.nf.pos, bz', bs', bp.mono (by decide), bq.mono (by decide)⟩
    refine ⟨_, rfl, _, rfl, rd_mul Tm fun Ha r4 x y sa R => ?_⟩
    have V4 : Val x y (TP ps * z0) (LL * s1) := by
      have h := val_mul VF VT R.nf R.eq
      rw [Int.mul_comm z0, Int.mul_comm s1] at h
      exact h
    have Tn : Two (CS K) Ha (.ref r4) (.ref pu) x y a b := ⟨.inl ⟨r4, rfl, R.sh⟩, .inl ⟨pu, rfl, hU9.ext sa⟩, .inl ⟨r4, rfl⟩, V4.nf.pos, VU.nf.pos, (V4.bp (bT.mul bz)).mono (by decide), (V4.bq bLs).mono (by decide), ba.mono (by decide), bb.mono (by decide)⟩
    refine ⟨_, rfl, rd_ne Tn fun Hb sb => ?_⟩
    rw [fe1 V4 VU]
    refine ⟨false, rfl, iteF ?_⟩
    have s9b := sa.trans sb
    have hQb := hQ9.ext s9b
    have hFb := hF9.ext s9b
    have hTb := hT9.ext s9b
    clear hQ9 hF9 hT9 hU9 hB9 Tm Tn R V4 s9b sa sb hs9
    clear Ha r4 x y
    -- over the factor and back
    have fn : nT z0 s1 ≠ 0 := by
      intro h
      have e := VF.eq
      rw [h, Int.zero_mul] at e
      rcases Int.mul_eq_zero.mp e.symm with h' | h'
      · exact zn h'
      · exact absurd h' (Int.ne_of_gt VF.nf.pos)
    obtain ⟨dt, ht⟩ := id hTb
    refine ⟨_, rfl, pt, dt, _, rfl, ht, shf_no _ _ (by decide +kernel) (by decide +kernel), _, rfl, pt, .ref pf, p, q, nT z0 s1, nB z0 s1, rfl, hTb, .inl ⟨pf, rfl, hFb⟩, VT.nf.pos, VF.nf.pos, bp.mono (by decide), bq.mono (by decide), bz'.mono (by decide), bs'.mono (by decide), fun _ Ha o sa ho => ?_, fun h => absurd h fn⟩
    have nf := nf_of (Fov p q (nT z0 s1) (nB z0 s1)) (b := Gov p q (nT z0 s1) (nB z0 s1)) (Int.mul_ne_zero (Int.ne_of_gt VT.nf.pos) fn)
    have b1 : Bit 440 (nT (Fov p q (nT z0 s1) (nB z0 s1)) (Gov p q (nT z0 s1) (nB z0 s1))) := ((bp.mul (VF.bq bs1)).le nf.le1).mono (by decide)
    have b2 : Bit 440 (nB (Fov p q (nT z0 s1) (nB z0 s1)) (Gov p q (nT z0 s1) (nB z0 s1))) := ((bq.mul (VF.bp bz)).le nf.le2).mono (by decide)
    have n1 := nf.toNf
    have e1 : nT (Fov p q (nT z0 s1) (nB z0 s1)) (Gov p q (nT z0 s1) (nB z0 s1)) * (q * nT z0 s1) = (p * nB z0 s1) * nB (Fov p q (nT z0 s1) (nB z0 s1)) (Gov p q (nT z0 s1) (nB z0 s1)) := nf.eq
    generalize nT (Fov p q (nT z0 s1) (nB z0 s1)) (Gov p q (nT z0 s1) (nB z0 s1)) = x at ho b1 n1 e1 ⊢
    generalize nB (Fov p q (nT z0 s1) (nB z0 s1)) (Gov p q (nT z0 s1) (nB z0 s1)) = y at ho b2 n1 e1 ⊢
    have hFa := hFb.ext sa
    have Tz : Two (CS K) Ha (.ref o) (.ref pf) x y (nT z0 s1) (nB z0 s1) := ⟨.inl ⟨o, rfl, ho⟩, .inl ⟨pf, rfl, hFa⟩, .inl ⟨o, rfl⟩, n1.pos, VF.nf.pos, b1, b2, bz', bs'⟩
    refine ⟨_, rfl, rd_mul Tz fun Hc r5 x5 y5 sc R5 => ?_⟩
    have V5 : Val x5 y5 (TP ps) LL := val_back e1 R5.eq VT R5.nf fn VF.nf.pos n1.pos
    refine ⟨_, rfl, _, rfl, r5, x5, y5, TP ps, LL, rfl, R5.sh, V5.nf, (V5.bq LL_bit).mono (by decide), (V5.bp bT).mono (by decide), bT.mono (by decide), LL_bit.mono (by decide), V5.eq, true, rfl, iteF ?_⟩
    have s_bc := sa.trans sc
    have hQc := hQb.ext s_bc
    have hTc := hTb.ext s_bc
    clear hQb hFb hTb ht hFa Tz R5 V5 ho b1 b2 n1 e1 nf s_bc sa sc
    clear Ha o r5 x5 y5 x y
    -- the floors
    have fl := FP_le ps gps
    rw [lps] at fl
    obtain ⟨fl1, fl2⟩ := fl
    have ef : p / q = TP ps / LL := val_floor VT
    have c1 : FP ps ≤ p / q := by
      rw [ef]
      exact (Int.le_ediv_iff_mul_le LL_pos).mpr fl1
    have c2 : p / q < FP ps + (m : Int) := by
      rw [ef]
      exact (Int.ediv_lt_iff_lt_mul LL_pos).mpr (by omega)
    obtain ⟨dt, ht⟩ := id hTc
    refine ⟨_, rfl, _, rfl, .inl ⟨⟨_, rfl⟩, true, rfl, iteF ?_⟩⟩
    refine ⟨_, rfl, _, rfl, pt, dt, _, rfl, ht, shf_no _ _ (by decide +kernel) (by decide +kernel), pt, p, q, rfl, hTc, VT.nf.pos, bq.mono (by decide), _, _, rfl, rfl, ?_⟩
    refine ⟨true, congrArg V.bl (decide_eq_true c1), iteF ?_⟩
    refine ⟨_, rfl, pt, dt, _, rfl, ht, shf_no _ _ (by decide +kernel) (by decide +kernel), pt, p, q, rfl, hTc, VT.nf.pos, bq.mono (by decide), _, rfl, _, rfl, _, _, rfl, rfl, _, _, rfl, rfl, ?_⟩
    refine ⟨true, congrArg V.bl (decide_eq_true c2), iteF ?_⟩
    -- the rest
    refine ⟨_, rfl, _, rfl, D2, rfl, ⟨_, SqL.of hQc.1⟩, for_list (K := K) (a := D2) (xs := Ss.map fun x => V.ref x.1) (fun i σ H' => Same Hc H' ∧ ∃ (pr : Addr) (c e : Int) (w13 : Option V), Sh (CS K) H' pr c e ∧ Val c e (TP ps - TP (ps.take i)) LL ∧
      σ = [some (.ref a0), some (.int (m : Int)), some (.ref D), v3', some (.ref D2), none, some (.ref ls), some (.ref pf), some (.int LL), some (.int (TP ps)), some (.ref pt), some (.ref pu), some (.int (FP ps)), w13, some (.ref pb), some (.ref pr)])
      ⟨Same.refl _, pt, p, q, v13, hTc, ?_, rfl⟩ (fun i σ H' _ h => h.1.seq (SqL.of hQc.1)) ?_ ?_⟩
    · show Val p q (TP ps - 0) LL
      rw [Int.sub_zero]
      exact VT
    · rintro i x σ H' hi ⟨sg, pr, c', e', w13, hR, VR, rfl⟩
      obtain ⟨l, t, d, rfl, hmem, him, hpi, htk⟩ := nth i x hi
      obtain ⟨⟨dl, hl⟩, g2, g3, g4, g5⟩ := hQc.2 _ hmem
      dsimp only at hl g2 g3 g4 g5
      have VS := val_of (t := t) g3
      have hSh : Sh (CS K) H' l (nT t d) (nB t d) := ⟨dl, sg _ _ hl⟩
      have bt : Bit 134 (nT t d) := VS.bp g5
      have bd : Bit 6 (nB t d) := VS.bq (bit40 g3 g4)
      have bTi : Bit 194 (TP ps - TP (ps.take i)) := bT.sub (TP_bit (gtk i) (ltk i))
      have bc' : Bit 194 c' := VR.bp bTi
      have be' : Bit 53 e' := VR.bq LL_bit
      have Tw : Two (CS K) H' (.ref pr) (.ref l) c' e' (nT t d) (nB t d) := ⟨.inl ⟨pr, rfl, hR⟩, .inl ⟨l, rfl, hSh⟩, .inl ⟨pr, rfl⟩, VR.nf.pos, VS.nf.pos, bc'.mono (by decide), be'.mono (by decide), bt.mono (by decide), bd.mono (by decide)⟩
      refine ⟨_, rfl, _, rfl, rd_sub Tw fun Ha r1 p1 q1 sa R1 => ?_⟩
      refine ⟨sg.trans sa, r1, p1, q1, some (.ref l), R1.sh, ?_, rfl⟩
      rw [htk, TP_app]
      have h := val_sub VR VS (LL_div g3 g4) R1.nf R1.eq
      rw [Int.sub_sub] at h
      exact h
    rintro σ H' ⟨sg, pr, c', e', w13, hR, VR, rfl⟩
    rw [List.length_map, lSs, ← lps, List.take_length, Int.sub_self] at VR
    obtain ⟨rfl, rfl⟩ := val_eq VR (v00 LL_pos)
    have hT' := hTc.ext sg
    have o1 : Bit 4000 1 := (show (1 : Int).natAbs < 2 ^ 4000 by decide)
    have o0 : Bit 4000 0 := (show (0 : Int).natAbs < 2 ^ 4000 by decide)
    refine ⟨_, rfl, pr, 0, 1, 0, 1, rfl, hR, VR.nf, (show (1 : Int).natAbs < 2 ^ 249 by decide), o0, o0, o1, rfl, true, rfl, iteT ?_⟩
    have T0 : Two (CS K) H' (.ref pr) (.int 0) 0 1 0 1 := ⟨.inl ⟨pr, rfl, hR⟩, .inr ⟨rfl, rfl⟩, .inl ⟨pr, rfl⟩, by decide, by decide, (show (0 : Int).natAbs < 2 ^ 440 by decide), one, (show (0 : Int).natAbs < 2 ^ 440 by decide), one⟩
    refine ⟨_, rfl, rd_eq T0 fun Ha sa => ?_⟩
    refine ⟨true, rfl, iteT ?_⟩
    have hTa := hT'.ext sa
    have T1 : Two (CS K) Ha (.ref pt) (.int 1) p q 1 1 := ⟨.inl ⟨pt, rfl, hTa⟩, .inr ⟨rfl, rfl⟩, .inl ⟨pt, rfl⟩, VT.nf.pos, by decide, bp.mono (by decide), bq.mono (by decide), one, one⟩
    refine ⟨_, rfl, rd_fd T1 (fun _ Hb p' q' sb hq' he => ?_) (fun h => absurd h (by decide))⟩
    have hTb := hTa.ext sb
    obtain ⟨db, hb⟩ := id hTb
    have e3 : p' / q' = p / q := by
      rw [Int.mul_one, Int.mul_one] at he
      rw [floor_eq hq' (Int.ne_of_gt VT.nf.pos) he, Int.fdiv_eq_ediv_of_nonneg p (Int.le_of_lt VT.nf.pos)]
    refine ⟨_, rfl, pt, db, _, rfl, hb, shf_no _ _ (by decide +kernel) (by decide +kernel), pt, p, q, rfl, hTb, VT.nf.pos, bq.mono (by decide), rfl, ?_⟩
    show Q (.bl (decide (V.int (p' / q') = V.int (p / q)))) Hb
    rw [e3, decide_eq_true (rfl : V.int (p / q) = V.int (p / q))]
    exact k _
end
end K4

set_option Elab.async false
set_option linter.all false
set_option maxRecDepth 100000
set_option maxHeartbeats 0
namespace K4
open PySem PySem.Spec PyProof.Rows L2 Vf
def fn : List He.DefD := [
  ⟨("is_integer", none), "is_integer", "is_integer", defArgs s_is_integer, defBody s_is_integer, defScope s_is_integer, [], []⟩,
  ⟨("BadShare", some "__init__"), "__init__", "BadShare.__init__", defArgs s_BadShare_init, defBody s_BadShare_init, defScope s_BadShare_init, [], []⟩,
  ⟨("Share", some "__init__"), "__init__", "Share.__init__", defArgs s_Share_init, defBody s_Share_init, defScope s_Share_init, [.int 1], []⟩,
  ⟨("Share", some "floor"), "floor", "Share.floor", defArgs s_Share_floor, defBody s_Share_floor, defScope s_Share_floor, [], []⟩,
  ⟨("is_number", none), "is_number", "is_number", defArgs s_is_number, defBody s_is_number, defScope s_is_number, [], []⟩,
  ⟨("parts", none), "parts", "parts", defArgs s_parts, defBody s_parts, defScope s_parts, [], []⟩,
  ⟨("Share", some "__add__"), "__add__", "Share.__add__", defArgs s_Share_add, defBody s_Share_add, defScope s_Share_add, [], []⟩,
  ⟨("Share", some "__radd__"), "__radd__", "Share.__radd__", defArgs s_Share_radd, defBody s_Share_radd, defScope s_Share_radd, [], []⟩,
  ⟨("Share", some "__sub__"), "__sub__", "Share.__sub__", defArgs s_Share_sub, defBody s_Share_sub, defScope s_Share_sub, [], []⟩,
  ⟨("Share", some "__rsub__"), "__rsub__", "Share.__rsub__", defArgs s_Share_rsub, defBody s_Share_rsub, defScope s_Share_rsub, [], []⟩,
  ⟨("Share", some "__mul__"), "__mul__", "Share.__mul__", defArgs s_Share_mul, defBody s_Share_mul, defScope s_Share_mul, [], []⟩,
  ⟨("Share", some "__rmul__"), "__rmul__", "Share.__rmul__", defArgs s_Share_rmul, defBody s_Share_rmul, defScope s_Share_rmul, [], []⟩,
  ⟨("Share", some "__floordiv__"), "__floordiv__", "Share.__floordiv__", defArgs s_Share_floordiv, defBody s_Share_floordiv, defScope s_Share_floordiv, [], []⟩,
  ⟨("Share", some "__rfloordiv__"), "__rfloordiv__", "Share.__rfloordiv__", defArgs s_Share_rfloordiv, defBody s_Share_rfloordiv, defScope s_Share_rfloordiv, [], []⟩,
  ⟨("Share", some "__neg__"), "__neg__", "Share.__neg__", defArgs s_Share_neg, defBody s_Share_neg, defScope s_Share_neg, [], []⟩,
  ⟨("Share", some "over"), "over", "Share.over", defArgs s_Share_over, defBody s_Share_over, defScope s_Share_over, [], []⟩,
  ⟨("Share", some "__eq__"), "__eq__", "Share.__eq__", defArgs s_Share_eq, defBody s_Share_eq, defScope s_Share_eq, [], []⟩,
  ⟨("Share", some "__ne__"), "__ne__", "Share.__ne__", defArgs s_Share_ne, defBody s_Share_ne, defScope s_Share_ne, [], []⟩,
  ⟨("_law_is_integer", none), "_law_is_integer", "_law_is_integer", defArgs s_law_is_integer, defBody s_law_is_integer, defScope s_law_is_integer, [], []⟩,
  ⟨("_law_cell", none), "_law_cell", "_law_cell", defArgs s_law_cell, defBody s_law_cell, defScope s_law_cell, [], []⟩,
  ⟨("_law_gcd", none), "_law_gcd", "_law_gcd", defArgs s_law_gcd, defBody s_law_gcd, defScope s_law_gcd, [], []⟩,
  ⟨("_law_is_share", none), "_law_is_share", "_law_is_share", defArgs s_law_is_share, defBody s_law_is_share, defScope s_law_is_share, [], []⟩,
  ⟨("_law_part", none), "_law_part", "_law_part", defArgs s_law_part, defBody s_law_part, defScope s_law_part, [], []⟩,
  ⟨("law", none), "law", "law", defArgs s_law, defBody s_law, defScope s_law, [], []⟩]
def fa : List He.Fa := [.free "int", .free "bool", .free "abs", .free "isinstance", .glo "is_integer", .glo "is_number", .glo "parts", .glo "Share", .glo "NoShare", .glo "BadShare", .cls "Share", .mkr "Share", .noat "Share" "top", .noat "Share" "bottom", .exc "NoShare", .meth "Share" "__add__", .meth "Share" "__radd__", .meth "Share" "__sub__", .meth "Share" "__rsub__", .meth "Share" "__mul__", .meth "Share" "__rmul__", .meth "Share" "__floordiv__", .meth "Share" "__rfloordiv__", .meth "Share" "__neg__", .meth "Share" "__abs__", .meth "Share" "over", .meth "Share" "floor", .meth "Share" "__eq__", .meth "Share" "__ne__", .meth "Share" "__lt__", .meth "Share" "__le__", .meth "Share" "__gt__", .meth "Share" "__ge__", .free "len", .free "range", .free "sum", .glo "_law_cell", .glo "_law_is_integer", .glo "_law_gcd", .glo "_law_is_share", .glo "_law_part", .glo "law"]
def ex2 (K : PySem.W.Frag) : Bool := ((He.eqO (PySem.W.nsIn K mainGlobals "gcd") (some (some (.builtin "math.gcd")))) && ((exI K "BadShare" "part") && ((decide (PySem.W.exmOne K (.ref (He.ga K "NoShare")) (.ref (He.ga K "NoShare")) = some true)) && ((He.eqO (PySem.W.specialIn K (.builtin "object.__class__") "__get__") (some (some (.builtin "getset_descriptor.__get__")))) && ((decide (PySem.W.takesIn K (.builtin "object.__class__") = some true)) && ((He.eqO (PySem.W.findIn K (.ref (He.ga K "Share")) "__class__") (some (some (.builtin "object.__class__")))) && ((decide (PySem.W.mroIn K (He.ga K "Share") (.type "object") = some true)) && ((decide (PySem.W.mroIn K (He.ga K "Share") (.type "int") = some false)) && ((PySem.W.selfFirst K (He.ga K "Share")) && ((decide (PySem.W.subIn K (.type "int") (.ref (He.ga K "Share")) = some false)) && ((decide (PySem.W.kitOne K (.ref (He.ga K "Share")) (.ref (He.ga K "Share")) = some true)) && (((["int", "bool", "NoneType", "str", "tuple", "list", "dict"] : List String).all fun n => decide (PySem.W.kitOne K (.type n) (.ref (He.ga K "Share")) = some false)) && ((oddK.all fun n => decide (PySem.W.mroIn K (He.ga K "Share") (.type n) = some false)) && ((He.eqO (PySem.W.nsIn K mainGlobals "gcd") (some (some (.builtin "math.gcd")))) && ((exI K "BadShare" "part") && ((decide (PySem.W.exmOne K (.ref (He.ga K "NoShare")) (.ref (He.ga K "NoShare")) = some true)) && ((He.eqO (PySem.W.specialIn K (.builtin "object.__class__") "__get__") (some (some (.builtin "getset_descriptor.__get__")))) && ((decide (PySem.W.takesIn K (.builtin "object.__class__") = some true)) && ((He.eqO (PySem.W.findIn K (.ref (He.ga K "Share")) "__class__") (some (some (.builtin "object.__class__")))) && ((decide (PySem.W.mroIn K (He.ga K "Share") (.type "object") = some true)) && ((decide (PySem.W.mroIn K (He.ga K "Share") (.type "int") = some false)) && ((PySem.W.selfFirst K (He.ga K "Share")) && ((decide (PySem.W.subIn K (.type "int") (.ref (He.ga K "Share")) = some false)) && ((decide (PySem.W.kitOne K (.ref (He.ga K "Share")) (.ref (He.ga K "Share")) = some true)) && (((["int", "bool", "NoneType", "str", "tuple", "list", "dict"] : List String).all fun n => decide (PySem.W.kitOne K (.type n) (.ref (He.ga K "Share")) = some false)) && true)))))))))))))))))))))))))
def ex (K : PySem.W.Frag) : Bool := (fa.all fun f => f.ok K) && ex2 K
abbrev R : PySem.W.OpenRow := PySem.W.OpenLaw.row PySem.Challenge.rw_seenshares_k04_whole_shares_are_exact
abbrev hk : PySem.W.Hook := hookM 5 ex fn
def ob (s : PySem.W.SharedT) : AlM := obsMG 5 ex fn (HandSHeadRun.getT s)
theorem ob_eq (s : PySem.W.SharedT) : ob s = hk.obs s.abs := obsMG_eq (HandSHeadRun.getT_eq s)
def names : List Str := ["SeenError", "BadShare", "NoShare", "is_integer", "Share", "is_number", "parts", "_law_cell", "_law_take", "_law_is_integer", "_law_gcd", "_law_is_share", "_law_part"]
theorem run (w : World) : HandSHeadRun.RunEqI R (PySem.W.view R.prog [0, 18]) hk ob 100000 names w := by
  unfold HandSHeadRun.RunEqI
  kernel_rfl
end K4

set_option Elab.async false
set_option linter.all false
set_option maxRecDepth 100000
set_option maxHeartbeats 4000000
namespace K4
open PySem PySem.Spec PyProof.Rows L2 Vf
section
variable {K : PySem.W.Frag} {h : Heap} {mg : Str → Option Value}
theorem mk_STxt (X : K.In h) (G : h.Ns mainGlobals mg) (c : ex K = true) : STxt K mg := by
  obtain ⟨a, c⟩ := He.ba c
  have fact : ∀ (i : Nat) {f : He.Fa}, fa[i]? = some f → f.ok K = true := fun i f e => List.all_eq_true.mp a f (List.mem_of_getElem? e)
  obtain ⟨c0, c⟩ := He.ba c
  obtain ⟨c1, c⟩ := He.ba c
  obtain ⟨c2, c⟩ := He.ba c
  obtain ⟨c3, c⟩ := He.ba c
  obtain ⟨c4, c⟩ := He.ba c
  obtain ⟨c5, c⟩ := He.ba c
  obtain ⟨c6, c⟩ := He.ba c
  obtain ⟨c7, c⟩ := He.ba c
  obtain ⟨c8, c⟩ := He.ba c
  obtain ⟨c9, c⟩ := He.ba c
  obtain ⟨c10, c⟩ := He.ba c
  obtain ⟨c11, c⟩ := He.ba c
  obtain ⟨c12, c⟩ := He.ba c
  obtain ⟨c13, c⟩ := He.ba c
  obtain ⟨c14, c⟩ := He.ba c
  obtain ⟨c15, c⟩ := He.ba c
  obtain ⟨c16, c⟩ := He.ba c
  obtain ⟨c17, c⟩ := He.ba c
  obtain ⟨c18, c⟩ := He.ba c
  obtain ⟨c19, c⟩ := He.ba c
  obtain ⟨c20, c⟩ := He.ba c
  obtain ⟨c21, c⟩ := He.ba c
  obtain ⟨c22, c⟩ := He.ba c
  obtain ⟨c23, c⟩ := He.ba c
  obtain ⟨c24, c⟩ := He.ba c
  exact
  { z_int := He.free_ok X G (fact 0 (f := .free "int") rfl)
    z_bool := He.free_ok X G (fact 1 (f := .free "bool") rfl)
    z_abs := He.free_ok X G (fact 2 (f := .free "abs") rfl)
    z_isinstance := He.free_ok X G (fact 3 (f := .free "isinstance") rfl)
    gcd := PySem.W.mg_of X G (He.eqO_ok c0)
    g_is_integer := He.glo_ok X G (fact 4 (f := .glo "is_integer") rfl)
    g_is_number := He.glo_ok X G (fact 5 (f := .glo "is_number") rfl)
    g_parts := He.glo_ok X G (fact 6 (f := .glo "parts") rfl)
    g_Share := He.glo_ok X G (fact 7 (f := .glo "Share") rfl)
    g_NoShare := He.glo_ok X G (fact 8 (f := .glo "NoShare") rfl)
    g_BadShare := He.glo_ok X G (fact 9 (f := .glo "BadShare") rfl)
    c_Share := cls_of (fact 10 (f := .cls "Share") rfl)
    m_Share := mk_of (fact 11 (f := .mkr "Share") rfl)
    nT := noat_of (fact 12 (f := .noat "Share" "top") rfl)
    nB := noat_of (fact 13 (f := .noat "Share" "bottom") rfl)
    x_BadShare := exI_ok c1
    e_NoShare := (fact 14 (f := .exc "NoShare") rfl)
    te := of_decide_eq_true c2
    hn := He.eqO_ok c3
    ht := of_decide_eq_true c4
    ha := He.eqO_ok c5
    hm := of_decide_eq_true c6
    hi := of_decide_eq_true c7
    hc := c8
    hs := of_decide_eq_true c9
    k1 := of_decide_eq_true c10
    kz := fun n hn => of_decide_eq_true (List.all_eq_true.mp c11 n hn) }
theorem mk_SMeth (X : K.In h) (G : h.Ns mainGlobals mg) (c : ex K = true) : SMeth K := by
  obtain ⟨a, c⟩ := He.ba c
  have fact : ∀ (i : Nat) {f : He.Fa}, fa[i]? = some f → f.ok K = true := fun i f e => List.all_eq_true.mp a f (List.mem_of_getElem? e)
  obtain ⟨c0, c⟩ := He.ba c
  obtain ⟨c1, c⟩ := He.ba c
  obtain ⟨c2, c⟩ := He.ba c
  obtain ⟨c3, c⟩ := He.ba c
  obtain ⟨c4, c⟩ := He.ba c
  obtain ⟨c5, c⟩ := He.ba c
  obtain ⟨c6, c⟩ := He.ba c
  obtain ⟨c7, c⟩ := He.ba c
  obtain ⟨c8, c⟩ := He.ba c
  obtain ⟨c9, c⟩ := He.ba c
  obtain ⟨c10, c⟩ := He.ba c
  obtain ⟨c11, c⟩ := He.ba c
  obtain ⟨c12, c⟩ := He.ba c
  obtain ⟨c13, c⟩ := He.ba c
  obtain ⟨c14, c⟩ := He.ba c
  obtain ⟨c15, c⟩ := He.ba c
  obtain ⟨c16, c⟩ := He.ba c
  obtain ⟨c17, c⟩ := He.ba c
  obtain ⟨c18, c⟩ := He.ba c
  obtain ⟨c19, c⟩ := He.ba c
  obtain ⟨c20, c⟩ := He.ba c
  obtain ⟨c21, c⟩ := He.ba c
  obtain ⟨c22, c⟩ := He.ba c
  obtain ⟨c23, c⟩ := He.ba c
  obtain ⟨c24, c⟩ := He.ba c
  exact
  { m_add := meth_of (fact 15 (f := .meth "Share" "__add__") rfl)
    m_radd := meth_of (fact 16 (f := .meth "Share" "__radd__") rfl)
    m_sub := meth_of (fact 17 (f := .meth "Share" "__sub__") rfl)
    m_rsub := meth_of (fact 18 (f := .meth "Share" "__rsub__") rfl)
    m_mul := meth_of (fact 19 (f := .meth "Share" "__mul__") rfl)
    m_rmul := meth_of (fact 20 (f := .meth "Share" "__rmul__") rfl)
    m_fdv := meth_of (fact 21 (f := .meth "Share" "__floordiv__") rfl)
    m_rfdv := meth_of (fact 22 (f := .meth "Share" "__rfloordiv__") rfl)
    m_neg := meth_of (fact 23 (f := .meth "Share" "__neg__") rfl)
    m_abs := meth_of (fact 24 (f := .meth "Share" "__abs__") rfl)
    m_over := meth_of (fact 25 (f := .meth "Share" "over") rfl)
    m_floor := meth_of (fact 26 (f := .meth "Share" "floor") rfl) }
theorem mk_CMeth (X : K.In h) (G : h.Ns mainGlobals mg) (c : ex K = true) : CMeth K := by
  obtain ⟨a, c⟩ := He.ba c
  have fact : ∀ (i : Nat) {f : He.Fa}, fa[i]? = some f → f.ok K = true := fun i f e => List.all_eq_true.mp a f (List.mem_of_getElem? e)
  obtain ⟨c0, c⟩ := He.ba c
  obtain ⟨c1, c⟩ := He.ba c
  obtain ⟨c2, c⟩ := He.ba c
  obtain ⟨c3, c⟩ := He.ba c
  obtain ⟨c4, c⟩ := He.ba c
  obtain ⟨c5, c⟩ := He.ba c
  obtain ⟨c6, c⟩ := He.ba c
  obtain ⟨c7, c⟩ := He.ba c
  obtain ⟨c8, c⟩ := He.ba c
  obtain ⟨c9, c⟩ := He.ba c
  obtain ⟨c10, c⟩ := He.ba c
  obtain ⟨c11, c⟩ := He.ba c
  obtain ⟨c12, c⟩ := He.ba c
  obtain ⟨c13, c⟩ := He.ba c
  obtain ⟨c14, c⟩ := He.ba c
  obtain ⟨c15, c⟩ := He.ba c
  obtain ⟨c16, c⟩ := He.ba c
  obtain ⟨c17, c⟩ := He.ba c
  obtain ⟨c18, c⟩ := He.ba c
  obtain ⟨c19, c⟩ := He.ba c
  obtain ⟨c20, c⟩ := He.ba c
  obtain ⟨c21, c⟩ := He.ba c
  obtain ⟨c22, c⟩ := He.ba c
  obtain ⟨c23, c⟩ := He.ba c
  obtain ⟨c24, c⟩ := He.ba c
  exact
  { m_eq := meth_of (fact 27 (f := .meth "Share" "__eq__") rfl)
    m_ne := meth_of (fact 28 (f := .meth "Share" "__ne__") rfl)
    m_lt := meth_of (fact 29 (f := .meth "Share" "__lt__") rfl)
    m_le := meth_of (fact 30 (f := .meth "Share" "__le__") rfl)
    m_gt := meth_of (fact 31 (f := .meth "Share" "__gt__") rfl)
    m_ge := meth_of (fact 32 (f := .meth "Share" "__ge__") rfl)
    km := fun n hn => of_decide_eq_true (List.all_eq_true.mp c12 n hn) }
theorem mk_Txt (X : K.In h) (G : h.Ns mainGlobals mg) (c : ex K = true) : Txt K mg := by
  obtain ⟨a, c⟩ := He.ba c
  have fact : ∀ (i : Nat) {f : He.Fa}, fa[i]? = some f → f.ok K = true := fun i f e => List.all_eq_true.mp a f (List.mem_of_getElem? e)
  obtain ⟨c0, c⟩ := He.ba c
  obtain ⟨c1, c⟩ := He.ba c
  obtain ⟨c2, c⟩ := He.ba c
  obtain ⟨c3, c⟩ := He.ba c
  obtain ⟨c4, c⟩ := He.ba c
  obtain ⟨c5, c⟩ := He.ba c
  obtain ⟨c6, c⟩ := He.ba c
  obtain ⟨c7, c⟩ := He.ba c
  obtain ⟨c8, c⟩ := He.ba c
  obtain ⟨c9, c⟩ := He.ba c
  obtain ⟨c10, c⟩ := He.ba c
  obtain ⟨c11, c⟩ := He.ba c
  obtain ⟨c12, c⟩ := He.ba c
  obtain ⟨c13, c⟩ := He.ba c
  obtain ⟨c14, c⟩ := He.ba c
  obtain ⟨c15, c⟩ := He.ba c
  obtain ⟨c16, c⟩ := He.ba c
  obtain ⟨c17, c⟩ := He.ba c
  obtain ⟨c18, c⟩ := He.ba c
  obtain ⟨c19, c⟩ := He.ba c
  obtain ⟨c20, c⟩ := He.ba c
  obtain ⟨c21, c⟩ := He.ba c
  obtain ⟨c22, c⟩ := He.ba c
  obtain ⟨c23, c⟩ := He.ba c
  obtain ⟨c24, c⟩ := He.ba c
  exact
  { z_int := He.free_ok X G (fact 0 (f := .free "int") rfl)
    z_bool := He.free_ok X G (fact 1 (f := .free "bool") rfl)
    z_abs := He.free_ok X G (fact 2 (f := .free "abs") rfl)
    z_isinstance := He.free_ok X G (fact 3 (f := .free "isinstance") rfl)
    gcd := PySem.W.mg_of X G (He.eqO_ok c13)
    g_is_integer := He.glo_ok X G (fact 4 (f := .glo "is_integer") rfl)
    g_is_number := He.glo_ok X G (fact 5 (f := .glo "is_number") rfl)
    g_parts := He.glo_ok X G (fact 6 (f := .glo "parts") rfl)
    g_Share := He.glo_ok X G (fact 7 (f := .glo "Share") rfl)
    g_NoShare := He.glo_ok X G (fact 8 (f := .glo "NoShare") rfl)
    g_BadShare := He.glo_ok X G (fact 9 (f := .glo "BadShare") rfl)
    c_Share := cls_of (fact 10 (f := .cls "Share") rfl)
    m_Share := mk_of (fact 11 (f := .mkr "Share") rfl)
    nT := noat_of (fact 12 (f := .noat "Share" "top") rfl)
    nB := noat_of (fact 13 (f := .noat "Share" "bottom") rfl)
    x_BadShare := exI_ok c14
    e_NoShare := (fact 14 (f := .exc "NoShare") rfl)
    te := of_decide_eq_true c15
    hn := He.eqO_ok c16
    ht := of_decide_eq_true c17
    ha := He.eqO_ok c18
    hm := of_decide_eq_true c19
    hi := of_decide_eq_true c20
    hc := c21
    hs := of_decide_eq_true c22
    k1 := of_decide_eq_true c23
    kz := fun n hn => of_decide_eq_true (List.all_eq_true.mp c24 n hn)
    z_len := He.free_ok X G (fact 33 (f := .free "len") rfl)
    z_range := He.free_ok X G (fact 34 (f := .free "range") rfl)
    z_sum := He.free_ok X G (fact 35 (f := .free "sum") rfl)
    g_law_cell := He.glo_ok X G (fact 36 (f := .glo "_law_cell") rfl)
    g_law_is_integer := He.glo_ok X G (fact 37 (f := .glo "_law_is_integer") rfl)
    g_law_gcd := He.glo_ok X G (fact 38 (f := .glo "_law_gcd") rfl)
    g_law_is_share := He.glo_ok X G (fact 39 (f := .glo "_law_is_share") rfl)
    g_law_part := He.glo_ok X G (fact 40 (f := .glo "_law_part") rfl) }
theorem facts {P : Program} {w : World} {f : Addr} (X : K.In h) (G : h.Ns mainGlobals mg) (hfa : mg ("law" : Str) = some (.ref f)) (c : SaysM ex fn K) :
    ∃ fd : FuncData, (∀ (s : Shared) (v : Value), BindsTo s fd ⟨[v], []⟩ [("_law_script", v)]) ∧ ∀ base : Heap, K.In base → base.Ns mainGlobals mg → FnOk P w K mg base CX0 10 f fd ["_law_script"] (spLaw K) := by
  obtain ⟨d0, F0⟩ := c.fn 0
  obtain ⟨d1, F1⟩ := c.fn 1
  obtain ⟨d2, F2⟩ := c.fn 2
  obtain ⟨d3, F3⟩ := c.fn 3
  obtain ⟨d4, F4⟩ := c.fn 4
  obtain ⟨d5, F5⟩ := c.fn 5
  obtain ⟨d6, F6⟩ := c.fn 6
  obtain ⟨d7, F7⟩ := c.fn 7
  obtain ⟨d8, F8⟩ := c.fn 8
  obtain ⟨d9, F9⟩ := c.fn 9
  obtain ⟨d10, F10⟩ := c.fn 10
  obtain ⟨d11, F11⟩ := c.fn 11
  obtain ⟨d12, F12⟩ := c.fn 12
  obtain ⟨d13, F13⟩ := c.fn 13
  obtain ⟨d14, F14⟩ := c.fn 14
  obtain ⟨d15, F15⟩ := c.fn 15
  obtain ⟨d16, F16⟩ := c.fn 16
  obtain ⟨d17, F17⟩ := c.fn 17
  obtain ⟨d18, F18⟩ := c.fn 18
  obtain ⟨d19, F19⟩ := c.fn 19
  obtain ⟨d20, F20⟩ := c.fn 20
  obtain ⟨d21, F21⟩ := c.fn 21
  obtain ⟨d22, F22⟩ := c.fn 22
  obtain ⟨d23, F23⟩ := c.fn 23
  have hl : He.ga K "law" = f := by
    have e := He.glo_ok X G (List.all_eq_true.mp (He.ba c.ex).1 (.glo "law") (List.mem_of_getElem? (i := 41) rfl))
    rw [hfa] at e
    cases e
    rfl
  have b := FunD.bindsA (ps := ["_law_script"]) F23 fun _ _ _ _ _ _ us hl => match us, hl with | [_], _ => rfl
  refine ⟨d23, fun s v => b s [v] rfl, fun base _ _ => ?_⟩
  have T := mk_Txt X G c.ex
  have M := mk_SMeth X G c.ex
  have CM := mk_CMeth X G c.ex
  have S := T.toSTxt
  have A0 := ok_is_integer (P := P) (w := w) (base := base) F0 S
  have A1 := ok_BadShare_init (P := P) (w := w) (mg := mg) (base := base) F1
  have G2 := ok_Share_init (P := P) (w := w) (base := base) F2 S A0 A1
  have I2 := O_Share2 F2 G2
  have I1 := O_Share1 F2 G2
  have A3 := ok_Share_floor (P := P) (w := w) (base := base) F3 S
  have A4 := ok_is_number (P := P) (w := w) (base := base) F4 S A0
  have A5 := ok_parts (P := P) (w := w) (base := base) F5 S
  have A6 := ok_Share_add F6 S A4 A5 I2
  have A8 := ok_Share_sub F8 S A4 A5 I2
  have A10 := ok_Share_mul F10 S A4 A5 I2
  have A14 := ok_Share_neg F14 S I2
  have A15 := ok_Share_over F15 S A5 I2
  have A7 := ok_Share_radd F7 S M A4 A6
  have A9 := ok_Share_rsub F9 S M A4 A6 A14
  have A11 := ok_Share_rmul F11 S M A4 A10
  have A12 := ok_Share_floordiv F12 S M A4 A15 A3
  have A13 := ok_Share_rfloordiv F13 S M A4 A15 A3 I1
  have C0 := ok_Share_eq F16 S A4 A5
  have C1 := ok_Share_ne F17 S CM C0
  have B0 := ok_law_is_integer (P := P) (w := w) (base := base) F18 T
  have B2 := ok_law_cell (P := P) (w := w) (base := base) F19 T
  have B3 := ok_law_gcd (P := P) (w := w) (base := base) F20 T
  have B4 := ok_law_is_share F21 T B0 B3
  have B5 := ok_law_part (P := P) (w := w) (base := base) F22 T
  have r := ok_law F23 T M CM B2 B5 B0 B3 B4 I2 I1 A3 A15 A6 A7 A8 A9 A10 A11 A12 A13 C0 C1
  rw [← hl]
  exact r
end
end K4
open PySem PySem.W PySem.Calls PyProof.Rows
theorem PySem.Challenge.cw_seenshares_k04_whole_shares_are_exact_holds : PySem.Challenge.rw_seenshares_k04_whole_shares_are_exact.Holds := by
  w_on; o_law
  refine HandSHeadRun.head_imp (r := OpenLaw.row PySem.Challenge.rw_seenshares_k04_whole_shares_are_exact) (q := view (OpenLaw.row PySem.Challenge.rw_seenshares_k04_whole_shares_are_exact).prog [0, 18]) (H := K4.hk) (ob := K4.ob) (M := 100000) (loose := K4.names)
    (d := HandSHeadRun.topDef (OpenLaw.row PySem.Challenge.rw_seenshares_k04_whole_shares_are_exact).prog 18) (kwd := []) K4.ob_eq K4.run (by kernel_rfl) (by kernel_rfl) (by kernel_rfl) (by rfl) (by first | assumption | decide +kernel) (by decide +kernel) ⟨rfl, rfl, rfl, rfl, rfl, by decide +kernel⟩ ?hw ?hc
  case hw => w_witness2
  case hc =>
    refine L2.walk_ofE (l := PySem.Challenge.rw_seenshares_k04_whole_shares_are_exact) (n := 63) (k := 10) (x := "_law_script") (CX := L2.CX0) rfl (by decide) (by kernel_rfl) ⟨rfl, by decide, by decide⟩ ?F (fun _ _ _ _ z => z)
    intro w mg fa h Y G hmg0
    obtain ⟨K, KX, c⟩ := Y
    have hmg : mg ("law" : PySem.Str) = some (.ref fa) := by
      have e : (HandSHeadRun.topDef (OpenLaw.row PySem.Challenge.rw_seenshares_k04_whole_shares_are_exact).prog 18).name = ("law" : PySem.Str) := by kernel_rfl
      rw [← e]
      exact hmg0
    obtain ⟨fd, hb, hF⟩ := K4.facts (P := (PySem.Challenge.rw_seenshares_k04_whole_shares_are_exact).prog) (w := w) KX G hmg c
    exact ⟨K, fd, K4.spLaw K, KX, hb, fun H a ns hl _ hS => ⟨a, ns, rfl, hS, hl, fun _ => rfl⟩, hF⟩
#print axioms PySem.Challenge.cw_seenshares_k04_whole_shares_are_exact_holds
