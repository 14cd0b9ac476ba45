import PyProof.Rows.All
import Wide.All
import OpenK.AllK
import Wide.FinOn
import HandS.ForMost
import HandS.ForExc
import HandS.Wide
import HandS.IsInst
import HandS.SortInts
import HandS.DictComp
import HandS.More
import HandS.Zip
import HandS.Evl
import HandS.Conv
import HandS.Rev
import KE.KDictList
import PySem.Challenge.RW_pilenets_k06_whole_rows_there_and_back
set_option Elab.async false
set_option linter.all false
set_option maxRecDepth 100000
set_option maxHeartbeats 4000000
namespace Px
open PySem PySem.Spec PyProof.Rows L2

/-! ### defs of the text, and their promises as callees -/
structure Dfn (K : PySem.W.Frag) (mg : Str → Option Value) (x : Str) (st : Stmt) : Prop where
  ex : ∃ (f : Addr) (fd : FuncData), mg x = some (.ref f) ∧ Fun K x x st f fd
structure Cal (P : Program) (w : World) (K : PySem.W.Frag) (mg : Str → Option Value) (base : Heap) (CX : CXT) (k : Nat) (x : Str) (ps : List Str) (sp : Sp) : Prop where
  ex : ∃ (f : Addr) (fd : FuncData), FnOk P w K mg base CX k f fd ps sp ∧ mg x = some (.ref f) ∧ PySem.W.keepIn K (.ref f) = true ∧ Binds K fd ps []
section
variable {P : Program} {w : World} {K : PySem.W.Frag} {mg : Str → Option Value} {base : Heap} {CX : CXT} {k : Nat} {x : Str} {ps N : List Str} {sp sp' : Sp} {st : Stmt}
theorem Cal.of (D : Dfn K mg x st)
    (hb : ∀ (kV doc pm : Value) (an : Option Addr) (cdv ct : Value) (us : List Value), us.length = ps.length → bindArgs (PySem.W.fnOf x x (defArgs st) (defBody st) (defScope st) .none kV doc pm an cdv ct) ⟨us, []⟩ = pure (ps.zip us))
    (h : ∀ f fd, Fun K x x st f fd → FnOk P w K mg base CX k f fd ps sp) : Cal P w K mg base CX k x ps sp := by
  obtain ⟨f, fd, hm, F⟩ := D.ex
  exact ⟨f, fd, h f fd F, hm, F.kp, F.binds hb⟩
theorem Cal.imp (C : Cal P w K mg base CX k x ps sp) (h : ∀ vs H Q E, sp' vs H Q E → sp vs H Q E) : Cal P w K mg base CX k x ps sp' := by
  obtain ⟨f, fd, F, a, b, c⟩ := C.ex
  exact ⟨f, fd, ⟨fun vs H Q E q => F.len vs H Q E (h vs H Q E q), fun A o s H ar us vs Q E hr e1 e2 e3 q => F.run A o s H ar us vs Q E hr e1 e2 e3 (h vs H Q E q)⟩, a, b, c⟩
theorem Cal.no (D : Dfn K mg x st) (hb : ∀ (kV doc pm : Value) (an : Option Addr) (cdv ct : Value) (us : List Value), us.length = ps.length → bindArgs (PySem.W.fnOf x x (defArgs st) (defBody st) (defScope st) .none kV doc pm an cdv ct) ⟨us, []⟩ = pure (ps.zip us))
    (no : ∀ vs H Q E, ¬ sp vs H Q E) : Cal P w K mg base CX k x ps sp :=
  Cal.of D hb fun f fd F => ⟨fun vs H Q E h => (no _ _ _ _ h).elim, fun _ _ _ _ _ _ _ _ _ _ _ _ _ h => (no _ _ _ _ h).elim⟩
theorem Cal.mono {j : Nat} (C : Cal P w K mg base CX j x ps sp) (h : j ≤ k) : Cal P w K mg base CX k x ps sp := by
  obtain ⟨f, fd, F, a, b, c⟩ := C.ex
  exact ⟨f, fd, F.mono h, a, b, c⟩
end
theorem dfn_mk {K : PySem.W.Frag} {mg : Str → Option Value} {h : Heap} {x : Str} {st : Stmt} {f : Addr} {oc : Value} {od an : Option Addr} {osl : Array (Option Value)} {kV doc pm cdv ct : Value} (X : K.In h) (G : h.Ns mainGlobals mg)
    (a : PySem.W.nsIn K mainGlobals x = some (some (.ref f))) (l : K.lookup f = some ⟨oc, od, .func (PySem.W.fnOf x x (defArgs st) (defBody st) (defScope st) .none kV doc pm an cdv ct), osl⟩)
    (c : PySem.W.codeIn K cdv x = true) (k : PySem.W.keepIn K (.ref f) = true) : Dfn K mg x st := ⟨f, _, PySem.W.mg_of X G a, fun_mk l c k⟩
theorem law_end {P : Program} {w : World} {K : PySem.W.Frag} {mg : Str → Option Value} {CX : CXT} {k : Nat} {x : Str} {sp : Sp} {st : Stmt} {fa : Addr} (D : Dfn K mg "law" st)
    (hb : ∀ (kV doc pm : Value) (an : Option Addr) (cdv ct : Value) (us : List Value), us.length = ([x] : List Str).length → bindArgs (PySem.W.fnOf "law" "law" (defArgs st) (defBody st) (defScope st) .none kV doc pm an cdv ct) ⟨us, []⟩ = pure (([x] : List Str).zip us))
    (h : ∀ base f fd, Fun K "law" "law" st f fd → FnOk P w K mg base CX k f fd [x] sp) (hfa : mg "law" = some (.ref fa)) :
    ∃ fd : FuncData, (∀ (s : Shared) (u : Value), BindsTo s fd ⟨[u], []⟩ [(x, u)]) ∧ ∀ base : Heap, K.In base → base.Ns mainGlobals mg → FnOk P w K mg base CX k fa fd [x] sp := by
  obtain ⟨f, fd, hm, F⟩ := D.ex
  have e := hfa.symm.trans hm
  cases e
  refine ⟨fd, fun s u => ?_, fun base _ _ => h base _ _ F⟩
  obtain ⟨oc, od, kV, doc, pm, an, cdv, ct, osl, rfl, _⟩ := F.ex
  exact .of_eq (hb kV doc pm an cdv ct [u] rfl)
/-- a call of a def of the text -/
def tCal (sp : Sp) (E : XK) (t : TA) : TE := fun σ H Q => t σ H fun vs H1 => sp vs H1 Q E
section
variable {X : Cx} {CX : CXT} {k : Nat} {x : Str} {ps : List Str} {sp : Sp} {E : XK} {p pos : Pos} {e : Expr} {es : List Expr} {t : TA}
theorem pe_cal (C : Cal X.prog X.w X.K X.mg X.base CX k x ps sp) (hr : Room k X.A) (hx : Passes CX X E) (ha : PA X (e :: es) t) (hg : Gl X x := by rfl) (hdb : (x == ("__debug__" : Str)) = false := by decide)
    (he : starEach (e :: es) X.env = (false, eval e X.env) :: starEach es X.env := by rfl) (hpl : (backTo pos (starEach es X.env)).any (·.1) = false := by rfl) :
    PE X (.Call (.Name x p) (e :: es) [] pos) (tCal sp E t) := by
  obtain ⟨f, fd, F, hm, hk, hb⟩ := C.ex
  have h := pe_call (dvs := []) (pos := pos) (p := p) F hr hg hm hk hb .nil hx ha hdb he hpl
  have e2 : tCall sp [] E t = tCal sp E t := by
    funext σ H Q
    show t σ H (fun vs H1 => sp (vs ++ []) H1 Q E) = t σ H (fun vs H1 => sp vs H1 Q E)
    congr 1
    funext vs H1
    rw [List.append_nil]
  rw [e2] at h
  exact h
end

theorem mul_lt_of {a b c d : Int} (a0 : 0 ≤ a) (ab : a < b) (c0 : 0 ≤ c) (cd : c < d) : a * c < b * d := by
  have h1 : a * c ≤ a * d := Int.mul_le_mul_of_nonneg_left (Int.le_of_lt cd) a0
  have h2 : a * d < b * d := Int.mul_lt_mul_of_pos_right ab (by omega)
  omega
/-! ### readings, step by step -/
theorem r_st {t : TS} {D : Ends} {σ σ' : L2.St} {H : Hp} (e : σ = σ') (q : t D σ' H) : t D σ H := e ▸ q
theorem r_fix {A B : Prop} (h : A) (e : A = B) : B := e ▸ h
theorem iteNF {A B : Prop} (h : A) : if (!false) = true then A else B := by
  rw [if_pos (by decide)]
  exact h
theorem iteNT {A B : Prop} (h : B) : if (!true) = true then A else B := by
  rw [if_neg (by decide)]
  exact h
section
variable {σ σ' : L2.St} {H : Hp} {Q : VK} {QT : Bool → Hp → Prop} {i : Nat} {v x y : V} {te ta tb tc : TE} {t t1 t2 u c : TT} {tl : TA} {D : Ends} {n b ct : L2.St → Hp → Prop} {rt : VK} {s1 s2 : TS}
theorem r_var (h : σ[i]? = some (some v)) (q : Q v H) : tVar i σ H Q := ⟨v, h, q⟩
theorem r_c (q : Q v H) : tC v σ H Q := q
theorem r_seq (q : s1 ⟨s2 ⟨n, rt, b, ct⟩, rt, b, ct⟩ σ H) : tSeq s1 s2 ⟨n, rt, b, ct⟩ σ H := q
theorem r_next (q : n σ H) : tNext ⟨n, rt, b, ct⟩ σ H := q
theorem r_brk (q : b σ H) : tBreak ⟨n, rt, b, ct⟩ σ H := q
theorem r_cont (q : ct σ H) : tCont ⟨n, rt, b, ct⟩ σ H := q
theorem r_set (q : te σ H fun x H1 => n (σ.set i (some x)) H1) : tAsg te (gName i) ⟨n, rt, b, ct⟩ σ H := q
theorem r_asg {g : TG} (q : te σ H fun x H1 => g x σ H1 n) : tAsg te g ⟨n, rt, b, ct⟩ σ H := q
theorem r_ret (q : te σ H rt) : tRet te ⟨n, rt, b, ct⟩ σ H := q
theorem r_retN (q : rt .non H) : tRetN ⟨n, rt, b, ct⟩ σ H := q
theorem r_drop (q : te σ H fun _ H1 => n σ H1) : tDrop te ⟨n, rt, b, ct⟩ σ H := q
theorem r_if {ts tu : TS} (q : c σ H fun k H1 => if k = true then ts ⟨n, rt, b, ct⟩ σ H1 else tu ⟨n, rt, b, ct⟩ σ H1) : tIfS c ts tu ⟨n, rt, b, ct⟩ σ H := q
theorem r_ifE (q : t σ H fun c H1 => if c = true then ta σ H1 Q else tb σ H1 Q) : tIf t ta tb σ H Q := q
theorem r_test (q : te σ H fun x H1 => ∃ k, x = .bl k ∧ QT k H1) : tTest te σ H QT := q
theorem r_tB (q : te σ H fun x H1 => ∃ k, x = .bl k ∧ QT k H1) : tB te σ H QT := q
theorem r_bl {k : Bool} {QB : Bool → Prop} (q : QB k) : ∃ k', V.bl k = .bl k' ∧ QB k' := ⟨k, rfl, q⟩
theorem r_and (q : t σ H fun c H1 => if c = true then u σ H1 QT else QT false H1) : tAnd t u σ H QT := q
theorem r_or (q : t σ H fun c H1 => if c = true then QT true H1 else u σ H1 QT) : tOr t u σ H QT := q
theorem r_not (q : t σ H fun c H1 => QT (!c) H1) : tNot t σ H QT := q
theorem r_andV (q : ta σ H fun x H1 => ∃ c, x = .bl c ∧ if c = true then tb σ H1 Q else Q (.bl false) H1) : tAndV ta tb σ H Q := q
theorem r_orV (q : ta σ H fun x H1 => ∃ c, x = .bl c ∧ if c = true then Q (.bl true) H1 else tb σ H1 Q) : tOrV ta tb σ H Q := q
theorem r_notV (q : ta σ H fun x H1 => ∃ c, x = .bl c ∧ Q (.bl (!c)) H1) : tNotV ta σ H Q := q
theorem r_op {r : R2} (q : ta σ H fun x H1 => tb σ H1 fun y H2 => r x y H2 Q) : tOp r ta tb σ H Q := q
theorem r_un {r : V → Hp → VK → Prop} (q : ta σ H fun x H1 => r x H1 Q) : tUn r ta σ H Q := q
theorem r_I0 {g : Int → Int → V} {i j : Int} (q : Q (g i j) H) : rI0 g (.int i) (.int j) H Q := ⟨i, j, rfl, rfl, q⟩
theorem r_I {C : Int → Int → Prop} {g : Int → Int → V} {i j : Int} (q : Q (g i j) H) (hc : C i j) : rI C g (.int i) (.int j) H Q := ⟨i, j, rfl, rfl, hc, q⟩
theorem r_U {g : Int → V} {i : Int} (q : Q (g i) H) : rU g (.int i) H Q := ⟨i, rfl, q⟩
theorem r_eqI {i j : Int} (q : Q (.bl (decide (i = j))) H) : rEq (.int i) (.int j) H Q := ⟨rfl, by rw [show decide (V.int i = V.int j) = decide (i = j) from by simp]; exact q⟩
theorem r_neI {i j : Int} (q : Q (.bl (!decide (i = j))) H) : rNe (.int i) (.int j) H Q := ⟨rfl, by rw [show decide (V.int i = V.int j) = decide (i = j) from by simp]; exact q⟩
theorem r_eqB {i j : Bool} (q : Q (.bl (decide (i = j))) H) : rEq (.bl i) (.bl j) H Q := ⟨rfl, by rw [show decide (V.bl i = V.bl j) = decide (i = j) from by simp]; exact q⟩
theorem r_neB {i j : Bool} (q : Q (.bl (!decide (i = j))) H) : rNe (.bl i) (.bl j) H Q := ⟨rfl, by rw [show decide (V.bl i = V.bl j) = decide (i = j) from by simp]; exact q⟩
theorem r_eqS {i j : Str} (q : Q (.bl (decide (i = j))) H) : rEq (.str i) (.str j) H Q := ⟨rfl, by rw [show decide (V.str i = V.str j) = decide (i = j) from by simp]; exact q⟩
theorem r_neS {i j : Str} (q : Q (.bl (!decide (i = j))) H) : rNe (.str i) (.str j) H Q := ⟨rfl, by rw [show decide (V.str i = V.str j) = decide (i = j) from by simp]; exact q⟩
theorem r_lst (q : tl σ H fun xs H1 => xs.length ≤ sizeLine ∧ ∀ p, H1 p = none → Q (.ref p) (upd H1 p (.lst xs))) : tLst tl σ H Q := q
theorem r_tup (q : tl σ H fun xs H1 => xs.length ≤ sizeLine ∧ ∀ p, H1 p = none → Q (.ref p) (upd H1 p (.tup xs))) : tTup tl σ H Q := q
theorem r_nil {Q : List V → Hp → Prop} (q : Q [] H) : tNil σ H Q := q
theorem r_cons {Q : List V → Hp → Prop} {tr : TA} (q : ta σ H fun x H1 => tr σ H1 fun xs H2 => Q (x :: xs) H2) : tCons ta tr σ H Q := q
theorem r_cal {sp : Sp} {E : XK} (q : tl σ H fun vs H1 => sp vs H1 Q E) : tCal sp E tl σ H Q := q
theorem r_CB {r : List V → Hp → VK → Prop} (q : tl σ H fun vs H1 => r vs H1 Q) : tCB r tl σ H Q := q
theorem r_BM {K : PySem.W.Frag} {T : String} {r : V → List V → Hp → VK → Prop} (q : ta σ H fun x H1 => tyV K T x H1 ∧ tl σ H1 fun xs H2 => r x xs H2 Q) : tBM K T r ta tl σ H Q := q
theorem r_BM0 {K : PySem.W.Frag} {T : String} {r : V → List V → Hp → VK → Prop} (q : ta σ H fun x H1 => tyV K T x H1 ∧ r x [] H1 Q) : tBM0 K T r ta σ H Q := q
theorem r_gName {Q : L2.St → Hp → Prop} (q : Q (σ.set i (some v)) H) : gName i v σ H Q := q
theorem r_small {n : Nat} (h : n ≤ 16777216) : n ≤ sizeLine := by rw [sizeLine_eq]; exact h
theorem r_smalll {n : Nat} (h : n < 16777216) : n < sizeLine := by rw [sizeLine_eq]; exact h
theorem r_ixL {K : PySem.W.Frag} {p : Addr} {xs : List V} {i : Int} (h : SqL K H p xs) (ha : atI xs i = some v) (q : Q v H) : rIxL K (.ref p) (.int i) H Q := ⟨p, xs, i, v, rfl, rfl, h, ha, q⟩
theorem r_ixT {K : PySem.W.Frag} {p : Addr} {xs : List V} {i : Int} (h : SqT K H p xs) (ha : atI xs i = some v) (q : Q v H) : rIxT K (.ref p) (.int i) H Q := ⟨p, xs, i, v, rfl, rfl, h, ha, q⟩
theorem r_setL {p : Addr} {xs : List V} {k : Int} {j : Nat} {Q : Hp → Prop} (h : H p = some (.lst xs)) (hj : ixN xs.length k = some j) (q : Q (upd H p (.lst (xs.set j v)))) : rSetL (.ref p) (.int k) v H Q := ⟨p, xs, k, j, rfl, rfl, h, hj, q⟩
end
local macro_rules | `(tactic| walk_at "rd1") => `(tactic| first
  | (with_reducible refine r_var ?_ ?_; exact rfl) | with_reducible refine r_c ?_ | with_reducible refine r_seq ?_ | with_reducible refine r_next ?_ | with_reducible refine r_set ?_
  | with_reducible refine r_ret ?_ | with_reducible refine r_retN ?_ | with_reducible refine r_drop ?_ | with_reducible refine r_if ?_ | with_reducible refine r_test ?_ | with_reducible refine r_bl ?_
  | with_reducible refine r_op ?_ | with_reducible refine r_I0 ?_ | with_reducible refine r_I ?_ ?_ | with_reducible refine r_eqI ?_ | with_reducible refine r_neI ?_ | with_reducible refine r_nil ?_ | with_reducible refine r_cons ?_
  | with_reducible refine r_cal ?_ | with_reducible refine r_CB ?_ | with_reducible refine r_BM ?_ | with_reducible refine r_BM0 ?_ | with_reducible refine r_un ?_ | with_reducible refine r_U ?_
  | with_reducible refine r_and ?_ | with_reducible refine r_or ?_ | with_reducible refine r_not ?_ | with_reducible refine r_lst ?_ | with_reducible refine r_tup ?_ | with_reducible refine r_brk ?_ | with_reducible refine r_cont ?_ | with_reducible refine r_ifE ?_ | with_reducible refine r_tB ?_ | with_reducible refine r_gName ?_
  | with_reducible refine iteT ?_ | with_reducible refine iteF ?_ | with_reducible refine r_asg ?_)
/-! ### the layer's rules, the written part by its name (so that they stand in comprehensions too) -/
section
variable {X : Cx} {a b o e l : Expr} {es : List Expr} {ta tb te tl : TE} {t : TA} {pos p2 p tpos apos cpos : Pos} {lo hi : Option Expr} {tlo thi : TO} {name : Str} {T id : String} {r : V → List V → Hp → VK → Prop} {tg : Expr}
theorem pixL (K : PySem.W.Frag) (hK : X.K = K) (ha : PE X a ta) (hb : PE X b tb) (hs : PlainIx b) : PE X (.Subscript a b pos) (tOp (rIxL K) ta tb) := hK ▸ pe_ix ix_list ha hb hs
theorem pixT (K : PySem.W.Frag) (hK : X.K = K) (ha : PE X a ta) (hb : PE X b tb) (hs : PlainIx b) : PE X (.Subscript a b pos) (tOp (rIxT K) ta tb) := hK ▸ pe_ix ix_tup ha hb hs
theorem pslL (K : PySem.W.Frag) (hK : X.K = K) (he : PE X e te) (hl : PO X lo tlo) (hu : PO X hi thi) : PE X (.Subscript e (.Slice lo hi none p2) pos) (tSl (rSlL K) te tlo thi) := hK ▸ pe_slice sl_list he hl hu
theorem pslT (K : PySem.W.Frag) (hK : X.K = K) (he : PE X e te) (hl : PO X lo tlo) (hu : PO X hi thi) : PE X (.Subscript e (.Slice lo hi none p2) pos) (tSl (rSlT K) te tlo thi) := hK ▸ pe_slice sl_tup he hl hu
theorem opIn (K : PySem.W.Frag) (hK : X.K = K) : OpR X (compareOp .In) (rIn K false) := hK ▸ op_in_seq
theorem opNotIn (K : PySem.W.Frag) (hK : X.K = K) : OpR X (compareOp .NotIn) (rIn K true) := hK ▸ op_notIn_seq
theorem opEqD (K : PySem.W.Frag) (hK : X.K = K) (hu : X.A.units + 64 < cLine) : OpR X (compareOp .Eq) (rEqD K) := hK ▸ op_eqD hu
theorem opNeD (K : PySem.W.Frag) (hK : X.K = K) (hu : X.A.units + 64 < cLine) : OpR X (compareOp .NotEq) (rNeD K) := hK ▸ op_neD hu
theorem opCatT (K : PySem.W.Frag) (hK : X.K = K) : OpR X (binaryOp .Add) (rCatT K) := hK ▸ op_catT
def rLen (K : PySem.W.Frag) : List V → Hp → VK → Prop := fun xs H Q => ∃ p ys, xs = [.ref p] ∧ (SqL K H p ys ∨ SqT K H p ys) ∧ Q (.int ys.length) H
theorem crLen (K : PySem.W.Frag) (hK : X.K = K) : CallR X (.builtin "len") (rLen K) := hK ▸ call_len_seq
def rLst (K : PySem.W.Frag) : List V → Hp → VK → Prop := fun xs H Q => ∃ p ys, xs = [.ref p] ∧ (SqL K H p ys ∨ SqT K H p ys) ∧ ∀ l, H l = none → Q (.ref l) (upd H l (.lst ys))
theorem crLst (K : PySem.W.Frag) (hK : X.K = K) : CallR X (.type "list") (rLst K) := hK ▸ call_list_of
theorem crIsi (K : PySem.W.Frag) (hK : X.K = K) : CallR X (.builtin "isinstance") (rIsi K) := hK ▸ call_isi
theorem crIsiT (K : PySem.W.Frag) (hK : X.K = K) : CallR X (.builtin "isinstance") (rIsiT K) := hK ▸ call_isiT
theorem crSrt (K : PySem.W.Frag) (hK : X.K = K) : CallR X (.builtin "sorted") (rSortedI K) := hK ▸ cr_sortedI
theorem crSum (K : PySem.W.Frag) (hK : X.K = K) (hc : X.calm = true) : CallR X (.builtin "sum") (rSum K) := hK ▸ cr_sum hc
theorem crMax (K : PySem.W.Frag) (hK : X.K = K) (hc : X.calm = true) : CallR X (.builtin "max") (rMax K) := hK ▸ cr_max hc
theorem crMin (K : PySem.W.Frag) (hK : X.K = K) (hc : X.calm = true) : CallR X (.builtin "min") (rMin K) := hK ▸ cr_min hc
theorem pbm (K : PySem.W.Frag) (hK : X.K = K) (pa : PlainAttrs T) (slot : Slot T name id) (hty : typeOf (.builtin id) = pure (.type "method_descriptor")) (hm : MtR X id r) (ho : PE X o te) (ha : PA X (e :: es) t)
    (hbase : attributeBase o name X.env (eval o X.env) = eval o X.env := by rfl)
    (hfew : ((backTo cpos (starEach (e :: es) X.env)).all (fun x => !x.1) && (backToKw cpos (keywordEach [] X.env)).all (fun x => x.1.isSome)
      && decide ((e :: es).length + ([] : List Keyword).length + (if ([] : List Keyword).isEmpty then 0 else 1) < 30)) = true := by rfl)
    (hline : (apos.endLine == cpos.line) = true := by rfl) (hs : starEach (e :: es) X.env = (false, eval e X.env) :: starEach es X.env := by rfl) (hplain : (backTo cpos (starEach es X.env)).any (·.1) = false := by rfl) :
    PE X (.Call (.Attribute o name apos) (e :: es) [] cpos) (tBM K T r te t) := hK ▸ pe_bm pa slot hty hm ho ha hbase hfew hline hs hplain
theorem pbm0 (K : PySem.W.Frag) (hK : X.K = K) (pa : PlainAttrs T) (slot : Slot T name id) (hty : typeOf (.builtin id) = pure (.type "method_descriptor")) (hm : MtR X id r) (ho : PE X o te)
    (hbase : attributeBase o name X.env (eval o X.env) = eval o X.env := by rfl) (hline : (apos.endLine == cpos.line) = true := by rfl) : PE X (.Call (.Attribute o name apos) [] [] cpos) (tBM0 K T r te) := hK ▸ pe_bm0 pa slot hty hm ho hbase hline
theorem piL (K : PySem.W.Frag) (hK : X.K = K) (hl : PE X l tl) : PI X tg l (iList K tl) := hK ▸ pi_list hl
theorem piT (K : PySem.W.Frag) (hK : X.K = K) (hl : PE X l tl) : PI X tg l (iTup K tl) := hK ▸ pi_tup hl
theorem piE (K : PySem.W.Frag) (hK : X.K = K) {elts : List Expr} {kk : Nat} (hg : Gl X "enumerate") (hm : X.mg "enumerate" = none) (ha : PA X [e] t) (hs : starEach [e] X.env = [(false, eval e X.env)] := by rfl) :
    PI X (.Tuple elts kk tpos) (.Call (.Name "enumerate" p) [e] [] pos) (iEnum K t) := hK ▸ pi_enum hg hm ha hs
theorem piRv (K : PySem.W.Frag) (hK : X.K = K) (hg : Gl X "reversed") (hm : X.mg "reversed" = none) (ha : PA X [e] t) (hs : starEach [e] X.env = [(false, eval e X.env)] := by rfl) : PI X tg (.Call (.Name "reversed" p) [e] [] pos) (iRev K t) := hK ▸ pi_reversed hg hm ha hs
theorem piZ (K : PySem.W.Frag) (hK : X.K = K) {e2 : Expr} {elts : List Expr} {kk : Nat} (hg : Gl X "zip") (hm : X.mg "zip" = none) (ha : PA X [e, e2] t)
    (hs : starEach [e, e2] X.env = (false, eval e X.env) :: starEach [e2] X.env := by rfl) (hpl : (backTo pos (starEach [e2] X.env)).any (·.1) = false := by rfl) :
    PI X (.Tuple elts kk tpos) (.Call (.Name "zip" p) [e, e2] [] pos) (iZip K t) := hK ▸ pi_zip hg hm ha hs hpl
theorem pgT (K : PySem.W.Frag) (hK : X.K = K) {k n : Nat} {ts : TGs} (hc : X.calm = true) (h : PGs X es ts)
    (hn : (assignEach es X.env).length = n := by rfl) (hst : (assignEach es X.env).findIdx? (·.1) = none := by rfl) : PG X (.Tuple es k pos) (gTup K n ts) := hK ▸ pg_tup hc h hn hst
def tTru (K : PySem.W.Frag) (ta : TE) : TT := fun σ H Q => ta σ H fun x H' => ∃ k, TruV K x H' k ∧ Q k H'
theorem ptTru (K : PySem.W.Frag) (hK : X.K = K) (ha : PE X a ta) (he : ∀ whole, isTrue a X.env whole = (do let v ← whole; standAt a.pos; holding [v] (truthy v))) : PT X a (tTru K ta) := hK ▸ pt_truth ha he
end
/-! ### heaps -/
def Upto (p : Addr) (H H' : Hp) : Prop := ∀ b o, b ≠ p → H b = some o → H' b = some o
theorem Upto.refl (p : Addr) (H : Hp) : Upto p H H := fun _ _ _ h => h
theorem Upto.trans {p : Addr} {H H1 H2 : Hp} (a : Upto p H H1) (b : Upto p H1 H2) : Upto p H H2 := fun c o n h => b c o n (a c o n h)
theorem same_upto {p : Addr} {H H' : Hp} (a : Same H H') : Upto p H H' := fun c o _ h => a c o h
theorem same_new {H : Hp} {p : Addr} {o : HO} (h : H p = none) : Same H (upd H p o) := fun b x e => by
  rw [upd_ne (ne_of_none e h)]
  exact e
theorem upto_upd {p : Addr} {H : Hp} {o : HO} : Upto p H (upd H p o) := fun b x n e => by
  rw [upd_ne n]
  exact e
/-- a list that is new to H may change -/
theorem same_mut {H H' : Hp} {p : Addr} {o : HO} (e : Same H H') (h : H p = none) : Same H (upd H' p o) := fun a u ha => by
  rw [upd_ne (ne_of_none ha h)]
  exact e a u ha
theorem upto_mut {H H' : Hp} {p l : Addr} {o : HO} (e : Upto p H H') (h : H l = none) : Upto p H (upd H' l o) := fun a u n ha => by
  rw [upd_ne (ne_of_none ha h)]
  exact e a u n ha
theorem upto_free {p : Addr} {H H' : Hp} (e : Upto p H H') {l : Addr} {o : HO} (hp : H' p = some o) (h : H' l = none) : H l = none := by
  cases q : H l with
  | none => rfl
  | some u =>
    have n : l ≠ p := fun z => by
      rw [z, hp] at h
      cases h
    rw [e l u n q] at h
    cases h
theorem upto_seq {K : PySem.W.Frag} {p : Addr} {H H' : Hp} {a : Addr} {xs : List V} (e : Upto p H H') (n : a ≠ p) (h : SqL K H a xs) : SqL K H' a xs := by
  rcases h with (h | ⟨o, h⟩) | h
  · exact .inl (.inl (e _ _ n h))
  · exact .inl (.inr ⟨o, e _ _ n h⟩)
  · exact .inr h
theorem seq_of {K : PySem.W.Frag} {H : Hp} {a : Addr} {xs : List V} (h : H a = some (.lst xs)) : SqL K H a xs := .inl (.inl h)
/-- the deck: a list of one number from 0 on -/
def Dk (H : Hp) (p : Addr) : Prop := ∃ d : Int, 0 ≤ d ∧ H p = some (.lst [.int d])
theorem Dk.ne {H : Hp} {p q : Addr} (d : Dk H p) (h : H q = none) : p ≠ q := by
  obtain ⟨_, _, e⟩ := d
  exact ne_of_none e h
theorem Dk.same {H H' : Hp} {p : Addr} (d : Dk H p) (e : Same H H') : Dk H' p := by
  obtain ⟨x, h, q⟩ := d
  exact ⟨x, h, e _ _ q⟩
theorem Dk.free {H H' : Hp} {p l : Addr} (d : Dk H' p) (e : Upto p H H') (h : H' l = none) : H l = none := by
  obtain ⟨x, _, q⟩ := d
  exact upto_free e q h
theorem Dk.upd {H : Hp} {p q : Addr} {o : HO} (d : Dk H p) (n : p ≠ q) : Dk (upd H q o) p := by
  obtain ⟨x, h, e⟩ := d
  exact ⟨x, h, by rw [upd_ne n]; exact e⟩
abbrev intL (ns : List Int) : List V := ns.map V.int
theorem at0 {v : V} {r : List V} : atI (v :: r) 0 = some v := atI_nat (xs := v :: r) (j := 0) rfl
theorem at_nat {xs : List V} {i : Int} {v : V} (h0 : 0 ≤ i) (h : xs[i.toNat]? = some v) : atI xs i = some v := by
  have e : i = ((i.toNat : Nat) : Int) := by omega
  rw [e]
  exact atI_nat h
theorem lt_of_at {α : Type} {xs : List α} {j : Nat} {v : α} (h : xs[j]? = some v) : j < xs.length := (List.getElem?_eq_some_iff.mp h).1
theorem tyV_list {K : PySem.W.Frag} {H : Hp} {a : Addr} {xs : List V} (h : SqL K H a xs) : tyV K "list" (.ref a) H := .inl ⟨rfl, _, h⟩
theorem r_append {H : Hp} {Q : VK} {l : Addr} {xs : List V} {y : V} (h : H l = some (.lst xs)) (hz : xs.length < 16777216) (q : Q .non (upd H l (.lst (xs ++ [y])))) : rAppend (.ref l) [y] H Q :=
  ⟨l, xs, y, rfl, rfl, h, r_smalll hz, q⟩
/-! ### data -/
mutual
theorem dp_same {K : PySem.W.Frag} {H H' : Hp} (e : Same H H') : ∀ {v : V} {d : PyData}, Dp K H v d → Dp K H' v d
  | _, _, .non => .non
  | _, _, .bl b => .bl b
  | _, _, .int i => .int i
  | _, _, .str x => .str x
  | _, _, .lst h t => .lst (e.seq h) (dpAll_same e t)
  | _, _, .tup h t => .tup (by
      rcases h with (h | ⟨o, h⟩) | h
      · exact .inl (.inl (e _ _ h))
      · exact .inl (.inr ⟨o, e _ _ h⟩)
      · exact .inr h) (dpAll_same e t)
theorem dpAll_same {K : PySem.W.Frag} {H H' : Hp} (e : Same H H') : ∀ {v : List V} {d : List PyData}, DpAll K H v d → DpAll K H' v d
  | _, _, .nil => .nil
  | _, _, .cons h t => .cons (dp_same e h) (dpAll_same e t)
end
theorem dpAll_ints {K : PySem.W.Frag} {H : Hp} : ∀ ns : List Int, DpAll K H (intL ns) (ns.map PyData.int)
  | [] => .nil
  | n :: r => .cons (.int n) (dpAll_ints r)
theorem dp_ints {K : PySem.W.Frag} {H : Hp} {a : Addr} {ns : List Int} (h : SqL K H a (intL ns)) : Dp K H (.ref a) (.list (ns.map PyData.int)) := .lst h (dpAll_ints ns)
theorem canLay_ints : ∀ ns : List Int, PyData.canLayAll0 (ns.map PyData.int) = true
  | [] => rfl
  | n :: r => by
    show (PyData.canLay0 (.int n) && PyData.canLayAll0 (r.map PyData.int)) = true
    rw [canLay_ints r]
    rfl
theorem depth_ints : ∀ ns : List Int, PyData.depthAll (ns.map PyData.int) = 0
  | [] => rfl
  | n :: r => by
    show max (PyData.depth (.int n)) (PyData.depthAll (r.map PyData.int)) = 0
    rw [depth_ints r]
    rfl
theorem shaped_ints (ns : List Int) : SeqAt.shaped (.list (ns.map PyData.int)) = true := by
  unfold SeqAt.shaped
  have h1 : PyData.canLay0 (.list (ns.map PyData.int)) = true := by
    simp only [PyData.canLay0]
    exact canLay_ints ns
  have h2 : PyData.depth (.list (ns.map PyData.int)) = 1 := by
    show PyData.depthAll (ns.map PyData.int) + 1 = 1
    rw [depth_ints]
  rw [h1, h2]
  rfl
theorem eqv_ints (ns : List Int) : PyData.eqv (.list (ns.map PyData.int)) (.list (ns.map PyData.int)) = true := SeqAt.eqv_refl _ (by
  simp only [PyData.canLay0]
  exact canLay_ints ns)
theorem hu64 {A : Around} {k : Nat} (hr : Room k A) : A.units + 64 < cLine := by
  have := hr.un
  omega
/-! ### loops -/
def lpR (g : TG) (tb : TS) (D : Ends) (lo : Int) (n : Nat) : L2.St → Hp → Prop := fun σ H1 => ∃ W : Nat → Nat → L2.St → Hp → Prop, (∃ m, W 0 m σ H1) ∧ ∀ i m σ H, W i m σ H →
  ((Itr lo n).stop i H ∧ D.nx σ H) ∨ ((Itr lo n).go i H ∧ ∃ N : L2.St → Hp → Prop, (∀ σ' H', N σ' H' → ∃ m', m' < m ∧ W (i + 1) m' σ' H') ∧ ∀ x H', (Itr lo n).yld i H x H' → g x σ H' fun σ2 H2 => tb { D with nx := N, ct := N, bk := D.nx } σ2 H2)
section
variable {σ : L2.St} {H : Hp} {g : TG} {tb : TS} {D : Ends} {ta : TA} {n b ct : L2.St → Hp → Prop} {rt : VK} {i : Nat}
theorem r_forR1 (q : ta σ H fun vs H1 => ∃ j : Int, vs = [.int j] ∧ -(2 ^ 62) ≤ j ∧ j < 2 ^ 62 ∧ lpR g tb D 0 j.toNat σ H1) : tFor (iRng1 ta) g tb D σ H := q
theorem r_forR2 (q : ta σ H fun vs H1 => ∃ i j : Int, vs = [.int i, .int j] ∧ (-(2 ^ 62) ≤ i ∧ i < 2 ^ 62 ∧ -(2 ^ 62) ≤ j ∧ j < 2 ^ 62) ∧ lpR g tb D i (j - i).toNat σ H1) : tFor (iRng2 ta) g tb D σ H := q
/-- for x in range(n): the turn's number is i -/
theorem r_rng1 {m : Nat} {z : Int} (hz : z = (m : Int)) (hm : m < 2 ^ 62) (Pv : Nat → L2.St → Hp → Prop) (h0 : Pv 0 σ H)
    (hs : ∀ i' σ' H', i' < m → Pv i' σ' H' → tb ⟨Pv (i' + 1), rt, n, Pv (i' + 1)⟩ (σ'.set i (some (.int (i' : Nat)))) H')
    (hd : ∀ σ' H', Pv m σ' H' → n σ' H') : ∃ j : Int, [V.int z] = [.int j] ∧ -(2 ^ 62) ≤ j ∧ j < 2 ^ 62 ∧ lpR (gName i) tb ⟨n, rt, b, ct⟩ 0 j.toNat σ H := by
  subst hz
  refine ⟨m, rfl, by omega, by omega, ?_⟩
  rw [show (m : Int).toNat = m from Int.toNat_natCast m]
  exact for_range (g := gName i) (tb := tb) (D := ⟨n, rt, b, ct⟩) (lo := 0) (n := m) Pv h0 (fun i' σ' H' hi p => by
    have e : (0 : Int) + (i' : Int) = (i' : Int) := Int.zero_add _
    show tb _ (σ'.set i (some (.int ((0 : Int) + (i' : Int))))) H'
    rw [e]
    exact hs i' σ' H' hi p) hd
end
/-! ### comprehensions -/
def lcJ (J : It) (g : TG) (tt : TT) (te : TE) (vs : List Nat) (σ : L2.St) (H1 : Hp) (Q : VK) : Prop := ∀ D, H1 D = none → ∃ W : Nat → Nat → Hp → Prop, (∃ m, W 0 m (upd H1 D (.lst []))) ∧ ∀ i m H, W i m H →
  (J.stop i H ∧ Q (.ref D) H) ∨ (J.go i H ∧ ∃ Nx : Hp → Prop, (∀ H', Nx H' → ∃ m', m' < m ∧ W (i + 1) m' H') ∧ ∀ x H', J.yld i H x H' → g x (wipe σ vs) H' fun σ2 H2 => wipe σ2 vs = wipe σ vs ∧ tt σ2 H2 fun b H3 =>
    if b = true then te σ2 H3 fun y H4 => ∃ acc, H4 D = some (.lst acc) ∧ acc.length < sizeLine ∧ Nx (upd H4 D (.lst (acc ++ [y]))) else Nx H3)
section
variable {K : PySem.W.Frag} {σ : L2.St} {H : Hp} {Q : VK} {tl te : TE} {tt : TT} {g : TG} {vs : List Nat} {a : Addr} {xs : List V} {ta : TA}
theorem r_lcL (q : tl σ H fun x H1 => ∃ a, x = .ref a ∧ (∃ xs, SqL K H1 a xs) ∧ lcJ (Itl K a) g tt te vs σ H1 Q) : tLc (iList K tl) g tt te vs σ H Q := q
theorem r_lcL1 (h : SqL K H a xs) (q : lcJ (Itl K a) g tt te vs σ H Q) : ∃ b, V.ref a = .ref b ∧ (∃ xs, SqL K H b xs) ∧ lcJ (Itl K b) g tt te vs σ H Q := ⟨a, rfl, ⟨xs, h⟩, q⟩
theorem r_lcR (q : ta σ H fun vs1 H1 => ∃ j : Int, vs1 = [.int j] ∧ -(2 ^ 62) ≤ j ∧ j < 2 ^ 62 ∧ lcJ (Itr 0 j.toNat) g tt te vs σ H1 Q) : tLc (iRng1 ta) g tt te vs σ H Q := q
theorem r_lcR1 {z : Int} {m : Nat} (hz : z = (m : Int)) (hm : m < 2 ^ 62) (q : lcJ (Itr 0 m) g tt te vs σ H Q) : ∃ j : Int, [V.int z] = [.int j] ∧ -(2 ^ 62) ≤ j ∧ j < 2 ^ 62 ∧ lcJ (Itr 0 j.toNat) g tt te vs σ H Q := by
  subst hz
  exact ⟨m, rfl, by omega, by omega, by rw [Int.toNat_natCast]; exact q⟩
theorem r_yes {QT : Bool → Hp → Prop} (q : QT true H) : tYes σ H QT := q
end
/-! ### list(range(n)), list(reversed(xs)) -/
section
variable {σ : L2.St} {H : Hp} {Q : VK} {ta tb : TE}
theorem r_lrg1 (q : ta σ H fun x H1 => ∃ n, x = .int n ∧ RgOk 0 n ∧ ∀ p, H1 p = none → Q (.ref p) (upd H1 p (.lst (rgV 0 n)))) : tLstRg (tRg1 ta) σ H Q := by
  have e : (tLstRg (tRg1 ta) σ H Q) = (ta σ H fun x H1 => ∃ n, x = .int n ∧ RgOk 0 n ∧ ∀ p, H1 p = none → Q (.ref p) (upd H1 p (.lst (rgV 0 n)))) := rfl
  rw [e]
  exact q
theorem rgV_nat (n : Nat) : rgV 0 (n : Int) = (List.range n).map fun (k : Nat) => V.int (k : Int) := by
  unfold rgV
  rw [show ((n : Int) - 0).toNat = n by omega]
  congr 1
  funext k
  rw [Int.zero_add]
theorem r_lrange {z : Int} {m : Nat} (hz : z = (m : Int)) (hm : m < 100000) (q : ∀ p, H p = none → Q (.ref p) (upd H p (.lst ((List.range m).map fun (k : Nat) => V.int (k : Int))))) :
    RgOk 0 z ∧ ∀ p, H p = none → Q (.ref p) (upd H p (.lst (rgV 0 z))) := by
  subst hz
  exact ⟨RgOk.of_le (by omega) (by omega) (by omega) (by omega), by rw [rgV_nat]; exact q⟩
end
/-! ### len(set(xs)) of ints -/
def distinct (ns : List Int) : List Int := PyProof.Rows.firstMet (fun i => ns.getD i 0) ns.length
theorem distinct_nodup {ns : List Int} (h : ns.Nodup) : distinct ns = ns := by
  unfold distinct
  rw [RZ.firstMet_nodup h ns.length (Nat.le_refl _), List.take_length]
def tLenSet (K : PySem.W.Frag) (ta : TE) : TE := fun σ H Q => ta σ H fun x H1 => ∃ (l : Addr) (ns : List Int), x = .ref l ∧ SqL K H1 l (ns.map V.int) ∧ ns.length ≤ 4000 ∧ Q (.int ((distinct ns).length : Nat)) H1
theorem peLenSet (K : PySem.W.Frag) {X : Cx} (hK : X.K = K) {a : Expr} {ta : TE} {p p2 q pos : Pos} (hg : Gl X "len") (hm : X.mg "len" = none) (hg2 : Gl X "set") (hm2 : X.mg "set" = none) (ha : PE X a ta) (hc : X.calm = true := by rfl)
    (na : starEach [a] X.env = (false, eval a X.env) :: starEach [] X.env := by rfl) : PE X (.Call (.Name "len" p) [.Call (.Name "set" p2) [a] [] q] [] pos) (tLenSet K ta) := by
  subst hK
  refine ⟨fun pins s σ H Q I h => ?_⟩
  refine Call_ (ld_blt I hg hm boot_len ?_)
  refine PyProof.Rows.callWith_builtin1 (PyProof.Rows.args_cons ?_ rfl) rfl rfl
  refine Call_ (ld_blt I hg2 hm2 boot_set ?_)
  refine PyProof.Rows.callWith_type1 (PyProof.Rows.args_cons (thn (ha.run pins s σ H _ I h) fun v s1 ⟨x, H1, I1, r1, q1⟩ => PyProof.Rows.args_nil ?_) na) na rfl
  obtain ⟨l, ns, rfl, hq, hl, q1⟩ := q1
  cases r1
  obtain ⟨its, r, pl, hz⟩ := I1.list hq
  have hlen : its.toArray.size = ns.length := by rw [List.size_toArray, ← r.length, List.length_map]
  refine call_set_list (I1.ok.hd hc) pl.isList (by simpa using RZ.intsAre_vals r) (by rw [hlen]; unfold scanBound; omega) fun h' tk hS hk => ?_
  refine PyProof.Rows.args_nil ?_
  have e1 : PyProof.Rows.firstMet (fun i => ns.getD i 0) its.toArray.size = distinct ns := by
    unfold distinct
    rw [hlen]
  rw [e1] at hS
  have hle : (distinct ns).length ≤ ns.length := PyProof.Rows.firstMet_length_le _ _
  obtain ⟨o, es, ep, t, ho, hex, hd, _, _, _, hf, hn⟩ := hS
  have I2 : Inv X pins σ H1 { s1 with heap := h', toks := tk } := I1.kept fun b o e => hk b o (Heap.lt_size e) e
  exact call_len_set ho hex hd hf (by rw [hn] <;> omega) ⟨.int ((distinct ns).length : Nat), H1, I2.tok _, ⟨_, by rw [hn]⟩, q1⟩
theorem r_lenSet {K : PySem.W.Frag} {σ : L2.St} {H : Hp} {Q : VK} {ta : TE} (q : ta σ H fun x H1 => ∃ (l : Addr) (ns : List Int), x = .ref l ∧ SqL K H1 l (ns.map V.int) ∧ ns.length ≤ 4000 ∧ Q (.int ((distinct ns).length : Nat)) H1) : tLenSet K ta σ H Q := q
/-! ### enumerate -/
section
variable {K : PySem.W.Frag} {a : Addr} {xs : List V} {g : TG} {tt : TT} {te tk tv : TE} {vs : List Nat} {σ : L2.St} {H H1 : Hp} {D : Addr} {Qd : Hp → Prop} {Q : VK} {tl : TA} {tb : TS} {n b ct : L2.St → Hp → Prop} {rt : VK}
def dcJ (J : It) (g : TG) (tt : TT) (tk tv : TE) (vs : List Nat) (σ : L2.St) (H1 : Hp) (Q : VK) : Prop := ∀ D, H1 D = none → ∃ W : Nat → Nat → Hp → Prop, (∃ m, W 0 m (upd H1 D (.dK []))) ∧ ∀ i m H, W i m H →
  (J.stop i H ∧ Q (.ref D) H) ∨ (J.go i H ∧ ∃ Nx : Hp → Prop, (∀ H', Nx H' → ∃ m', m' < m ∧ W (i + 1) m' H') ∧ ∀ x H', J.yld i H x H' → g x (wipe σ vs) H' fun σ2 H2 => wipe σ2 vs = wipe σ vs ∧ tt σ2 H2 fun b H3 =>
    if b = true then tk σ2 H3 fun y H4 => tv σ2 H4 fun z H5 => ∃ kvs k, y = kV k ∧ H5 D = some (.dK kvs) ∧ kvs.length < sizeLine ∧ Nx (upd H5 D (.dK (putK kvs k z))) else Nx H3)
theorem r_dcE (q : tl σ H fun vs1 H1 => ∃ a xs, vs1 = [.ref a] ∧ SqL K H1 a xs ∧ dcJ (Ite K a) g tt tk tv vs σ H1 Q) : tDc (iEnum K tl) g tt tk tv vs σ H Q := q
theorem dc_enum (Pv : Nat → Hp → Prop) (h0 : Pv 0 (upd H1 D (.dK []))) (hl : ∀ i H, i ≤ xs.length → Pv i H → SqL K H a xs)
    (hs : ∀ i x H T, xs[i]? = some x → Pv i H → H T = none → g (.ref T) (wipe σ vs) (upd H T (.tup [.int (i : Nat), x])) fun σ2 H2 => wipe σ2 vs = wipe σ vs ∧ tt σ2 H2 fun b H3 =>
      if b = true then tk σ2 H3 fun y H4 => tv σ2 H4 fun z H5 => ∃ kvs k, y = kV k ∧ H5 D = some (.dK kvs) ∧ kvs.length < sizeLine ∧ Pv (i + 1) (upd H5 D (.dK (putK kvs k z))) else Pv (i + 1) H3) (hd : ∀ H, Pv xs.length H → Qd H) :
    ∃ W : Nat → Nat → Hp → Prop, (∃ m, W 0 m (upd H1 D (.dK []))) ∧ ∀ i m H, W i m H →
      ((Ite K a).stop i H ∧ Qd H) ∨ ((Ite K a).go i H ∧ ∃ Nx : Hp → Prop, (∀ H', Nx H' → ∃ m', m' < m ∧ W (i + 1) m' H') ∧ ∀ x H', (Ite K a).yld i H x H' → g x (wipe σ vs) H' fun σ2 H2 => wipe σ2 vs = wipe σ vs ∧ tt σ2 H2 fun b H3 =>
        if b = true then tk σ2 H3 fun y H4 => tv σ2 H4 fun z H5 => ∃ kvs k, y = kV k ∧ H5 D = some (.dK kvs) ∧ kvs.length < sizeLine ∧ Nx (upd H5 D (.dK (putK kvs k z))) else Nx H3) := by
  refine ⟨fun i m H => m = xs.length - i ∧ i ≤ xs.length ∧ Pv i H, ⟨xs.length, by simp, Nat.zero_le _, h0⟩, ?_⟩
  rintro i m H ⟨rfl, hi, p⟩
  have q := hl i H hi p
  by_cases hlt : i < xs.length
  · refine .inr ⟨⟨xs, xs[i], q, by simp [hlt]⟩, Pv (i + 1), fun H' p' => ⟨xs.length - (i + 1), by omega, rfl, hlt, p'⟩, fun x H' y => ?_⟩
    obtain ⟨T, x, e0, nT, e, y⟩ := y
    subst e
    subst e0
    exact hs i x H T (y xs q) p nT
  · have e : i = xs.length := by omega
    subst e
    exact .inl ⟨⟨xs, q, Nat.le_refl _⟩, hd H p⟩
def lpJ (J : It) (g : TG) (tb : TS) (D : Ends) (σ : L2.St) (H1 : Hp) : Prop := ∃ W : Nat → Nat → L2.St → Hp → Prop, (∃ m, W 0 m σ H1) ∧ ∀ i m σ H, W i m σ H →
  (J.stop i H ∧ D.nx σ H) ∨ (J.go i H ∧ ∃ N : L2.St → Hp → Prop, (∀ σ' H', N σ' H' → ∃ m', m' < m ∧ W (i + 1) m' σ' H') ∧ ∀ x H', J.yld i H x H' → g x σ H' fun σ2 H2 => tb { D with nx := N, ct := N, bk := D.nx } σ2 H2)
theorem r_forE {D : Ends} (q : tl σ H fun vs1 H1 => ∃ a xs, vs1 = [.ref a] ∧ SqL K H1 a xs ∧ lpJ (Ite K a) g tb D σ H1) : tFor (iEnum K tl) g tb D σ H := q
theorem r_forL {D : Ends} {te : TE} (q : te σ H fun x H1 => ∃ a, x = .ref a ∧ (∃ xs, SqL K H1 a xs) ∧ lpJ (Itl K a) g tb D σ H1) : tFor (iList K te) g tb D σ H := q
theorem r_forL1 {j : Nat} (h : SqL K H a xs) (Pv : Nat → L2.St → Hp → Prop) (h0 : Pv 0 σ H) (hl : ∀ i σ H, i ≤ xs.length → Pv i σ H → SqL K H a xs)
    (hs : ∀ i x σ H, xs[i]? = some x → Pv i σ H → tb ⟨Pv (i + 1), rt, n, Pv (i + 1)⟩ (σ.set j (some x)) H) (hd : ∀ σ H, Pv xs.length σ H → n σ H) :
    ∃ b', V.ref a = .ref b' ∧ (∃ xs, SqL K H b' xs) ∧ lpJ (Itl K b') (gName j) tb ⟨n, rt, b, ct⟩ σ H :=
  ⟨a, rfl, ⟨xs, h⟩, for_list (K := K) (a := a) (xs := xs) (g := gName j) (tb := tb) (D := ⟨n, rt, b, ct⟩) Pv h0 hl hs hd⟩
theorem r_forE1 (h : SqL K H a xs) (Pv : Nat → L2.St → Hp → Prop) (h0 : Pv 0 σ H) (hl : ∀ i σ H, i ≤ xs.length → Pv i σ H → SqL K H a xs)
    (hs : ∀ i x σ H T, xs[i]? = some x → Pv i σ H → H T = none → g (.ref T) σ (upd H T (.tup [.int (i : Nat), x])) fun σ2 H2 => tb ⟨Pv (i + 1), rt, n, Pv (i + 1)⟩ σ2 H2)
    (hd : ∀ σ H, Pv xs.length σ H → n σ H) : ∃ a' xs', [V.ref a] = [.ref a'] ∧ SqL K H a' xs' ∧ lpJ (Ite K a') g tb ⟨n, rt, b, ct⟩ σ H := by
  refine ⟨a, xs, rfl, h, fun i m σ H => m = xs.length - i ∧ i ≤ xs.length ∧ Pv i σ H, ⟨xs.length, by simp, Nat.zero_le _, h0⟩, ?_⟩
  rintro i m σ H ⟨rfl, hi, p⟩
  have q := hl i σ H hi p
  by_cases hlt : i < xs.length
  · refine .inr ⟨⟨xs, xs[i], q, by simp [hlt]⟩, Pv (i + 1), fun σ' H' p' => ⟨xs.length - (i + 1), by omega, rfl, hlt, p'⟩, fun x H' y => ?_⟩
    obtain ⟨T, x, e0, nT, e, y⟩ := y
    subst e
    subst e0
    exact hs i x σ H T (y xs q) p nT
  · have e : i = xs.length := by omega
    subst e
    exact .inl ⟨⟨xs, q, Nat.le_refl _⟩, hd σ H p⟩
/-- a, b = the pair at T -/
theorem r_gTup2 {T : Addr} {x y : V} {i j : Nat} {Q : L2.St → Hp → Prop} (h : SqT K H T [x, y]) (q : Q ((σ.set i (some x)).set j (some y)) H) : gTup K 2 (gCons (gName i) (gCons (gName j) gNil)) (.ref T) σ H Q :=
  ⟨T, [x, y], rfl, h, rfl, x, [y], rfl, y, [], rfl, rfl, q⟩
end
theorem r_dget {σ : L2.St} {H : Hp} {Q : VK} {td ty : TE} (q : td σ H fun x H1 => ty σ H1 fun y H2 => ∃ a v, x = .ref a ∧ DGet H2 a y (some v) ∧ Q v H2) : tDGet td ty σ H Q := q
theorem r_eqV {x y : V} {H : Hp} {Q : VK} (h : scal x y = true) (q : Q (.bl (decide (x = y))) H) : rEq x y H Q := ⟨h, q⟩
theorem r_len {K : PySem.W.Frag} {H : Hp} {Q : VK} {a : Addr} {xs : List V} (h : SqL K H a xs ∨ SqT K H a xs) (q : Q (.int xs.length) H) : rLen K [.ref a] H Q := ⟨a, xs, rfl, h, q⟩
theorem r_isi {K : PySem.W.Frag} {H : Hp} {Q : VK} {x : V} {t n : String} {b : Bool} (ty : TyX K H x (.type t)) (hk : kitB t n = some b) (q : Q (.bl b) H) : rIsi K [x, .ty n] H Q :=
  ⟨x, .ty n, _, _, b, rfl, .ty n, ty, kit_ty hk, q⟩
theorem r_isiT2 {K : PySem.W.Frag} {H : Hp} {Q : VK} {x : V} {tp : Addr} {t n m : String} {b c r : Bool} (ht : H tp = some (.tup [.ty n, .ty m])) (ty : TyX K H x (.type t)) (hb : kitB t n = some b) (hc : kitB t m = some c) (e : (b || c) = r) (q : Q (.bl r) H) : rIsiT K [x, .ref tp] H Q := by
  subst e
  exact ⟨x, tp, _, _, [.type n, .type m], b || c, rfl, ht, .cons (.ty n) (.cons (.ty m) .nil), ty, kitAny_cons (kit_ty hb) (fun e => by
    rw [e, Bool.false_or]
    exact kitAny_cons (kit_ty hc) (fun e2 => by rw [e2]; exact kitAny_nil) (fun e2 => e2)) (fun e => by rw [e]; rfl), q⟩
theorem tyx_L {K : PySem.W.Frag} {H : Hp} {a : Addr} {xs : List V} (h : SqL K H a xs) : TyX K H (.ref a) (.type "list") := by
  rcases h with (h | ⟨o, h⟩) | ⟨o, _, _, h, c, _⟩
  · exact .base (.lst h)
  · exact .base (.frz h)
  · exact .kList h c
theorem tyx_T {K : PySem.W.Frag} {H : Hp} {a : Addr} {xs : List V} (h : SqT K H a xs) : TyX K H (.ref a) (.type "tuple") := by
  rcases h with (h | ⟨o, h⟩) | ⟨o, _, _, h, c, _⟩
  · exact .base (.tup h)
  · exact .fTuple h
  · exact .kTuple h c
theorem TyX.same {K : PySem.W.Frag} {H H' : Hp} {x : V} {t : String} (e : Same H H') (h : TyX K H x (.type t)) : TyX K H' x (.type t) := by
  cases h with
  | base b =>
    cases b with
    | non => exact .base .non
    | bl x => exact .base (.bl x)
    | int i => exact .base (.int i)
    | str x => exact .base (.str x)
    | flt x => exact .base (.flt x)
    | lst h => exact .base (.lst (e _ _ h))
    | frz h => exact .base (.frz (e _ _ h))
    | tup h => exact .base (.tup (e _ _ h))
    | dK h => exact .base (.dK (e _ _ h))
    | dT h => exact .base (.dT (e _ _ h))
  | byt b => exact .byt b
  | set h => exact .set (e _ _ h)
  | kList h c => exact .kList h c
  | kTuple h c => exact .kTuple h c
  | kDict h c => exact .kDict h c
  | fTuple h => exact .fTuple (e _ _ h)
  | fDict h => exact .fDict (e _ _ h)
theorem dpAll_len {K : PySem.W.Frag} {H : Hp} : ∀ {xs : List V} {ds : List PyData}, DpAll K H xs ds → xs.length = ds.length
  | _, _, .nil => rfl
  | _, _, .cons _ t => by rw [List.length_cons, List.length_cons, dpAll_len t]
theorem dpAll_get {K : PySem.W.Frag} {H : Hp} : ∀ {xs : List V} {ds : List PyData} {i : Nat} {d : PyData}, DpAll K H xs ds → ds[i]? = some d → ∃ x, xs[i]? = some x ∧ Dp K H x d
  | _, _, _, _, .nil, h => by simp at h
  | _, _, 0, _, .cons h t, e => by
    simp at e
    subst e
    exact ⟨_, rfl, h⟩
  | _, _, i + 1, _, .cons h t, e => dpAll_get (i := i) t (by simpa using e)
/-- a[i], a a list or a tuple -/
def rIxQ (K : PySem.W.Frag) : R2 := fun x y H Q => rIxL K x y H Q ∨ rIxT K x y H Q
theorem pixQ (K : PySem.W.Frag) {X : Cx} (hK : X.K = K) {a b : Expr} {ta tb : TE} {pos : Pos} (ha : PE X a ta) (hb : PE X b tb) (hs : PlainIx b) : PE X (.Subscript a b pos) (tOp (rIxQ K) ta tb) := hK ▸ pe_ix (ix_list.or ix_tup) ha hb hs
/-! ints, texts, bools, lists and tuples of such: data that may be compared -/
mutual
def plainD : PyData → Bool
  | .int _ | .bool _ | .str _ => true
  | .list xs | .tuple xs => decide (xs.length ≤ 100000) && plainAll xs
  | _ => false
def plainAll : List PyData → Bool
  | [] => true
  | x :: xs => plainD x && plainAll xs
end
theorem plainAll_get : ∀ {ds : List PyData} {i : Nat} {d : PyData}, plainAll ds = true → ds[i]? = some d → plainD d = true
  | [], _, _, _, e => by simp at e
  | x :: r, 0, d, h, e => by
    simp at e
    subst e
    have h' : (plainD x && plainAll r) = true := by simpa [plainAll] using h
    exact (Bool.and_eq_true_iff.mp h').1
  | x :: r, i + 1, d, h, e => by
    have h' : (plainD x && plainAll r) = true := by simpa [plainAll] using h
    exact plainAll_get (i := i) (Bool.and_eq_true_iff.mp h').2 (by simpa using e)
theorem plain_len {ds : List PyData} (h : plainD (.list ds) = true) : ds.length ≤ 100000 := by
  have h' : (decide (ds.length ≤ 100000) && plainAll ds) = true := by simpa [plainD] using h
  exact of_decide_eq_true (Bool.and_eq_true_iff.mp h').1
theorem plain_all {ds : List PyData} (h : plainD (.list ds) = true) : plainAll ds = true := by
  have h' : (decide (ds.length ≤ 100000) && plainAll ds) = true := by simpa [plainD] using h
  exact (Bool.and_eq_true_iff.mp h').2
theorem plain_lenT {ds : List PyData} (h : plainD (.tuple ds) = true) : ds.length ≤ 100000 := by
  have h' : (decide (ds.length ≤ 100000) && plainAll ds) = true := by simpa [plainD] using h
  exact of_decide_eq_true (Bool.and_eq_true_iff.mp h').1
theorem plain_allT {ds : List PyData} (h : plainD (.tuple ds) = true) : plainAll ds = true := by
  have h' : (decide (ds.length ≤ 100000) && plainAll ds) = true := by simpa [plainD] using h
  exact (Bool.and_eq_true_iff.mp h').2
theorem depthAll_get : ∀ {ds : List PyData} {i : Nat} {d : PyData}, ds[i]? = some d → d.depth ≤ PyData.depthAll ds
  | [], _, _, e => by simp at e
  | x :: r, 0, d, e => by
    simp at e
    subst e
    show x.depth ≤ max x.depth (PyData.depthAll r)
    omega
  | x :: r, i + 1, d, e => by
    have := depthAll_get (ds := r) (i := i) (d := d) (by simpa using e)
    show d.depth ≤ max x.depth (PyData.depthAll r)
    omega
theorem plain_ints : ∀ ns : List Int, plainAll (ns.map PyData.int) = true
  | [] => rfl
  | n :: r => by
    show (plainD (.int n) && plainAll (r.map PyData.int)) = true
    rw [plain_ints r]
    rfl
theorem same_seqT {K : PySem.W.Frag} {H H' : Hp} {a : Addr} {xs : List V} (e : Same H H') (h : SqT K H a xs) : SqT K H' a xs := by
  rcases h with (h | ⟨o, h⟩) | h
  · exact .inl (.inl (e _ _ h))
  · exact .inl (.inr ⟨o, e _ _ h⟩)
  · exact .inr h
theorem same_of_upto {p : Addr} {H0 H H' : Hp} (s : Same H0 H) (n : H0 p = none) (u : Upto p H H') : Same H0 H' := fun b o e => u b o (ne_of_none e n) (s b o e)
theorem r_neInts {K : PySem.W.Frag} {H : Hp} {Q : VK} {a b : Addr} {ns : List Int} (h : SqL K H a (intL ns)) (h' : SqL K H b (intL ns)) (q : Q (.bl false) H) : rNeD K (.ref a) (.ref b) H Q :=
  ⟨_, _, dp_ints h, dp_ints h', shaped_ints ns, shaped_ints ns, by rw [eqv_ints]; exact q⟩
theorem r_eqInts {K : PySem.W.Frag} {H : Hp} {Q : VK} {a b : Addr} {ns : List Int} (h : SqL K H a (intL ns)) (h' : SqL K H b (intL ns)) (q : Q (.bl true) H) : rEqD K (.ref a) (.ref b) H Q :=
  ⟨_, _, dp_ints h, dp_ints h', shaped_ints ns, shaped_ints ns, by rw [eqv_ints]; exact q⟩
theorem cut_ints (ns : List Int) (lo hi : Option Int) : ∃ cs : List Int, cutV (intL ns) lo hi = intL cs := by
  unfold cutV
  refine ⟨(ns.drop (HT.sIx (intL ns).length 0 lo)).take (HT.sIx (intL ns).length (intL ns).length hi - HT.sIx (intL ns).length 0 lo), ?_⟩
  show _ = List.map V.int _
  rw [List.map_take, List.map_drop]
theorem int_at {ns : List Int} {i : Nat} {x : V} (h : (intL ns)[i]? = some x) : ∃ z, ns[i]? = some z ∧ x = V.int z := by
  rw [List.getElem?_map] at h
  cases e : ns[i]? with
  | none =>
    rw [e] at h
    cases h
  | some z =>
    rw [e] at h
    exact ⟨z, rfl, (Option.some.inj h).symm⟩
theorem r_cat {H : Hp} {Q : VK} {l b : Addr} {xs zs : List V} (h : H l = some (.lst xs)) (h' : H b = some (.lst zs)) (hz : xs.length + zs.length ≤ 16777216) (q : ∀ p, H p = none → Q (.ref p) (upd H p (.lst (xs ++ zs)))) : rCat (.ref l) (.ref b) H Q :=
  ⟨l, b, xs, zs, rfl, rfl, h, h', r_small hz, q⟩
theorem r_slice {te : TE} {tl th : TO} {σ : L2.St} {H : Hp} {Q : VK} {r : V → Option Int → Option Int → Hp → VK → Prop} (q : te σ H fun x H1 => tl σ H1 fun l H2 => th σ H2 fun u H3 => r x l u H3 Q) : tSl r te tl th σ H Q := q
theorem r_noPart {σ : L2.St} {H : Hp} {Q : Option Int → Hp → Prop} (q : Q none H) : tNoPart σ H Q := q
theorem r_part {t : TE} {σ : L2.St} {H : Hp} {Q : Option Int → Hp → Prop} (q : t σ H fun x H1 => ∃ i, x = .int i ∧ Q (some i) H1) : tPart t σ H Q := q
theorem r_int {i : Int} {QB : Int → Prop} (q : QB i) : ∃ i', V.int i = .int i' ∧ QB i' := ⟨i, rfl, q⟩
theorem r_slL {K : PySem.W.Frag} {lo hi : Option Int} {H : Hp} {Q : VK} {a : Addr} {xs : List V} (h : SqL K H a xs) (q : ∀ p, H p = none → Q (.ref p) (upd H p (.lst (cutV xs lo hi)))) : rSlL K (.ref a) lo hi H Q := ⟨a, xs, rfl, h, q⟩
theorem r_lst1 {K : PySem.W.Frag} {H : Hp} {Q : VK} {a : Addr} {xs : List V} (h : SqL K H a xs ∨ SqT K H a xs) (q : ∀ l, H l = none → Q (.ref l) (upd H l (.lst xs))) : rLst K [.ref a] H Q := ⟨a, xs, rfl, h, q⟩
theorem plain_listI {ns : List Int} (h : ns.length ≤ 100000) : plainD (.list (ns.map PyData.int)) = true := by
  simp only [plainD, List.length_map, plain_ints, Bool.and_true]
  exact decide_eq_true h
theorem depth_listI (ns : List Int) : PyData.depth (.list (ns.map PyData.int)) = 1 := by
  show PyData.depthAll (ns.map PyData.int) + 1 = 1
  rw [depth_ints]
theorem tup_of {K : PySem.W.Frag} {H : Hp} {a : Addr} {xs : List V} (h : H a = some (.tup xs)) : SqT K H a xs := .inl (.inl h)
end Px

set_option Elab.async false
set_option linter.all false
set_option maxRecDepth 100000
set_option maxHeartbeats 4000000
namespace Px
open RT
open PySem PySem.Spec PyProof.Rows L2
/-! ### list(reversed(xs)) -/
section
variable {prog : Program} {w : World} {A : Around} {E : Value → Shared → Prop} {s : Shared}
theorem init_rev {it l S : Addr} {items : Array Value} {R : Result → Shared → Prop} (hh : A.handled = none) (hit : s.heap.IsRevIter it l ((items.size : Int) - 1)) (hl : s.heap.IsList l items) (hne : l ≠ it) (hn : items.size ≤ sizeLine)
    (hSi : S ≠ it) (hSl : S ≠ l) (hS : s.heap.get? S = some { cls := .type "list", data := .seq #[] })
    (hR : ∀ h' tk acc c, (∀ b o, b ≠ S → b ≠ it → s.heap.get? b = some o → h'.get? b = some o) → h'.get? S = some { cls := .type "list", dict := none, data := .seq acc c, slots := #[] } →
      ItemsOf (fun i v => items[items.size - 1 - i]? = some v) acc items.size → R (.ok (.ret .none)) { s with heap := h', toks := tk }) :
    wpAny (model prog w) A.in1 (Builtin.«list.__init__» ⟨[.ref S, .ref it], []⟩)
      (fun fin s' => match fin with | .done f => R (.ok f) s' | .again c' => c'.quiet = true ∧ codeAny (model prog w) A c' R s') (fun e s' => R (.error e) s') s := by
  show wpAny _ _ (do let old ← Builtin.List.listItems (.ref S); Builtin.List.listUpdate (.ref S) (fun _ => #[]); letGo old.toList.reverse; Builtin.List.listExtendWith (.ref S) (.ref it) .none) _ _ s
  refine wpAny_bind ?_
  unfold Builtin.List.listItems
  refine wpAny_bind (wpAny_seqItems hS rfl (wpAny_pure ?_))
  show wpAny _ _ (updateSeq S (fun _ => #[]) >>= fun _ => letGo (#[] : Array Value).toList.reverse >>= fun _ => Builtin.List.listExtendWith (.ref S) (.ref it) .none) _ _ s
  refine wpAny_bind (wpAny_updateSeq hS rfl ?_)
  have hS₂ := Heap.get?_update_self (Obj.mapSeq (fun _ => (#[] : Array Value))) hS rfl
  have oth : ∀ b o, b ≠ S → s.heap.get? b = some o → (s.heap.update S (Obj.mapSeq (fun _ => (#[] : Array Value)))).get? b = some o :=
    fun b o hb e => (Heap.get?_update_other _ _ (Ne.symm hb)).trans e
  refine wpAny_bind (wpAny_letGo ?_)
  generalize hh2 : s.heap.update S (Obj.mapSeq (fun _ => (#[] : Array Value))) = h2 at oth hS₂ ⊢
  have hit1 : h2.IsRevIter it l ((items.size : Int) - 1) := hit.at fun o e => oth it o (Ne.symm hSi) e
  have hl1 : h2.IsList l items := hl.at fun o e => oth l o (Ne.symm hSl) e
  have W := (Walks.listRev (prog := prog) (w := w) (A := A.in1) hh it l hne items).toS
  have hSf : S ∉ [it, l] := by simp only [List.mem_cons, List.not_mem_nil, or_false, not_or]; exact ⟨hSi, hSl⟩
  have hT : ({ s with heap := h2 } : Shared).TypeIs (.ref it) "list_reverseiterator" := Heap.IsRevIter.typeIs (s := { s with heap := h2 }) hit1
  have h1 : Builtin.List.listSameRef (.ref S) (.ref it) = false := by simp [Builtin.List.listSameRef, hSi]
  unfold Builtin.List.listExtendWith
  refine wpAny_bind (wpAny_typeOf hT ?_)
  rw [if_neg (by rw [h1]; decide)]
  refine wpAny_bind (wpAny_pyIter_revIter (s := { s with heap := h2 }) hit1 ?_)
  refine wpAny_bind (wpAny_holding ?_)
  unfold Builtin.List.listLengthHint
  refine wpAny_bind (wpAny_specialOf hT nolen_lri ?_)
  show wpAny _ A.in1 (specialOf (Value.ref it) (Str.ofString "__length_hint__") >>= _) _ _ _
  refine wpAny_bind (wpAny_specialOf hT hint_lri ?_)
  generalize hid : ("list_reverseiterator.__length_hint__" : String) = id0
  wp_delta
  rw [show splitId id0 = some ("list_reverseiterator", "__length_hint__") from by subst hid; decide +kernel]
  subst hid
  refine wpAny_bind (wpAny_isInstance (b := true) hT (by rw [isSubtype_type]; kernel_rfl) ?_)
  refine wpAny_pure ?_
  rw [if_neg (by decide)]
  have e0 : ((items.size : Nat) : Int) - 1 - ((0 : Nat) : Int) = (items.size : Int) - 1 := by omega
  refine wpAny_pure ⟨plainId_quiet F.plain_extend_loop _, codeAny_extend_loopS W hn _ hSf _ items.size 0 _ _ _ rfl (Nat.zero_le _) ⟨Nat.zero_le _, by rw [e0]; exact hit1, hl1⟩ hS₂ (ItemsOf.nil _) fun s' acc' c' hm hS' hacc => ?_⟩
  rw [Moved.eq_with hm]
  refine hR s'.heap s'.toks acc' c' (fun b o hb hb2 e => hm.heap b o (fun hmem => ?_) (oth b o hb e)) hS' hacc
  rcases List.mem_cons.mp hmem with e' | hmem
  · exact hb e'
  · exact hb2 (List.mem_singleton.mp hmem)
theorem call_list_rev {it l : Addr} {items : Array Value} {Q : Value → Shared → Prop} (hh : A.handled = none) (hit : s.heap.IsRevIter it l ((items.size : Int) - 1)) (hl : s.heap.IsList l items) (hne : l ≠ it) (hn : items.size ≤ sizeLine)
    (hQ : ∀ h' tk acc c, (∀ b o, b ≠ it → s.heap.get? b = some o → h'.get? b = some o) → h'.get? s.heap.objs.size = some { cls := .type "list", dict := none, data := .seq acc c, slots := #[] } →
      ItemsOf (fun i v => items[items.size - 1 - i]? = some v) acc items.size → Q (.ref s.heap.objs.size) { s with heap := h', toks := tk }) :
    wpAny (model prog w) A (call (.type "list") [.ref it]) Q E s := by
  refine callType_codes (Q₁ := fun obj s₁ => obj = .ref s.heap.objs.size ∧ s₁ = { s with heap := s.heap.push { cls := .type "list", data := .seq #[] } }) PySem.F.called_list (PySem.F.typeCall_list_1 _) PySem.F.entry_list_init
    (code_list_new _ ⟨rfl, rfl⟩) fun obj s₁ h₁ => ?_
  obtain ⟨rfl, rfl⟩ := h₁
  obtain ⟨oi, hoi, _⟩ := id hit
  obtain ⟨ol, hol, _⟩ := id hl
  have hSi : s.heap.objs.size ≠ it := Nat.ne_of_gt (Heap.lt_size hoi)
  have hSl : s.heap.objs.size ≠ l := Nat.ne_of_gt (Heap.lt_size hol)
  have hS : (s.heap.push { cls := .type "list", data := .seq #[] }).get? s.heap.objs.size = some { cls := .type "list", data := .seq #[] } := Heap.get?_push_size _ rfl
  refine ⟨⟨_, hS, rfl⟩, PySem.F.args_list_init_2 _ _, init_rev (A := A.in1) (s := { s with heap := s.heap.push { cls := .type "list", data := .seq #[] } }) hh (hit.at fun o e => Heap.get?_push_of_some _ e) (hl.push _) hne hn hSi hSl hS (fun h' tk acc' c' hk hS' hacc => ?_)⟩
  exact ⟨rfl, hQ h' tk acc' c' (fun b o hb e => hk b o (Nat.ne_of_lt (Heap.lt_size e)) hb (Heap.get?_push_of_some _ e)) hS' hacc⟩
end
def tLRev (K : PySem.W.Frag) (te : TE) : TE := fun σ H Q => te σ H fun v H1 => ∃ (a : Addr) (xs : List V), v = .ref a ∧ SqL K H1 a xs ∧ ∀ q, H1 q = none → Q (.ref q) (upd H1 q (.lst xs.reverse))
theorem r_lrev {K : PySem.W.Frag} {te : TE} {σ : L2.St} {H : Hp} {Q : VK} (q : te σ H fun v H1 => ∃ (a : Addr) (xs : List V), v = .ref a ∧ SqL K H1 a xs ∧ ∀ q, H1 q = none → Q (.ref q) (upd H1 q (.lst xs.reverse))) : tLRev K te σ H Q := q
theorem peLRev (K : PySem.W.Frag) {X : Cx} (hK : X.K = K) {e : Expr} {te : TE} {p p2 pos pos2 : Pos} (hg : Gl X "list") (hm : X.mg "list" = none) (hg2 : Gl X "reversed") (hm2 : X.mg "reversed" = none) (he : PE X e te) (hc : X.calm = true := by rfl)
    (hs : starEach [e] X.env = (false, eval e X.env) :: starEach [] X.env := by rfl)
    (hs2 : starEach [.Call (.Name "reversed" p2) [e] [] pos2] X.env = (false, eval (.Call (.Name "reversed" p2) [e] [] pos2) X.env) :: starEach [] X.env := by rfl) :
    PE X (.Call (.Name "list" p) [.Call (.Name "reversed" p2) [e] [] pos2] [] pos) (tLRev K te) := by
  subst hK
  refine ⟨fun pins s σ H Q I h => ?_⟩
  refine Call_ (ld_blt I hg hm boot_list (PyProof.Rows.callWith_type1 (args_cons (Call_ (ld_blt I hg2 hm2 PyProof.Rows.boot_reversed (PyProof.Rows.callWith_type1 (args_cons (thn (he.run pins s σ H _ I h) fun u s1 ⟨v, H1, I1, r1, q1⟩ => args_nil ?_) hs) hs rfl))) hs2) hs2 rfl))
  obtain ⟨a, xs, ev, hq, q⟩ := q1
  subst ev
  obtain rfl : u = Value.ref a := r1
  obtain ⟨its, rv, p', hz⟩ := I1.list hq
  refine call_reversed_list p'.isList (args_nil ?_)
  have k0 : ∀ b o, s1.heap.get? b = some o → (s1.heap.push (revObj a ((its.toArray.size : Int) - 1))).get? b = some o := fun b o e => Heap.get?_push_of_some _ e
  have I2 : Inv X pins σ H1 { s1 with heap := s1.heap.push (revObj a ((its.toArray.size : Int) - 1)) } := I1.kept (t' := s1.toks) k0
  obtain ⟨f0, f1, f2, f3, f4, f5⟩ := I1.fpOk (H' := H1) (b := s1.heap.objs.size) (Nat.le_refl _) (I1.hok.fresh (Nat.le_refl _))
  have hl := p'.isList
  obtain ⟨ol, hol, _⟩ := id hl
  have hne : a ≠ s1.heap.objs.size := Nat.ne_of_lt (Heap.lt_size hol)
  have hn : its.toArray.size ≤ sizeLine := by rw [List.size_toArray, ← rv.length]; exact hz
  refine call_list_rev (s := { s1 with heap := s1.heap.push (revObj a ((its.toArray.size : Int) - 1)) }) (I1.ok.hd hc) ⟨_, Heap.get?_push_size _ rfl, rfl, rfl⟩ (hl.push _) hne hn fun h' tk acc c hk hS hi => ?_
  have nit : (s1.heap.push (revObj a ((its.toArray.size : Int) - 1))).objs.size ≠ s1.heap.objs.size := by rw [Heap.size_push]; omega
  have hfo : ∀ b ∈ [s1.heap.objs.size], FpOk X pins H1 b := fun b hb => by
    rw [List.mem_singleton.mp hb]
    exact ⟨f0, f1, f2, f3, f4, f5⟩
  have hok : ObjOk X.prog X.w (upd H1 (s1.heap.push (revObj a ((its.toArray.size : Int) - 1))).objs.size (.lst xs.reverse)) h' (s1.heap.push (revObj a ((its.toArray.size : Int) - 1))).objs.size (.lst xs.reverse) :=
    ⟨by rw [List.length_reverse]; exact hz, acc.toList, c, vals_rev rv hi, by rw [Array.toArray_toList]; exact hS⟩
  refine ⟨.ref (s1.heap.push (revObj a ((its.toArray.size : Int) - 1))).objs.size, _, I2.turnedNew (t' := tk) (ch := [s1.heap.objs.size]) (fun b o hb e => hk b o (fun z => hb (by rw [z]; exact List.mem_singleton.mpr rfl)) e) hfo (Nat.le_refl _) hok, rfl, q _ (I1.hok.fresh ?_)⟩
  rw [Heap.size_push]
  omega
end Px

set_option Elab.async false
set_option linter.all false
set_option maxRecDepth 100000
set_option maxHeartbeats 4000000
namespace Px
open PySem PySem.Spec PyProof.Rows L2
/-! ### orders of the numbers below n -/
def ntL (ns : List Nat) : List V := ns.map fun (k : Nat) => V.int (k : Int)
theorem ntL_int (ns : List Nat) : ntL ns = intL (ns.map fun (k : Nat) => (k : Int)) := by
  unfold ntL
  show _ = List.map V.int _
  rw [List.map_map]
  rfl
theorem ntL_length (ns : List Nat) : (ntL ns).length = ns.length := List.length_map _
theorem ntL_snoc (ns : List Nat) (k : Nat) : ntL (ns ++ [k]) = ntL ns ++ [V.int (k : Int)] := by
  unfold ntL
  rw [List.map_append]
  rfl
theorem ntL_at {ns : List Nat} {i : Nat} {x : V} (h : (ntL ns)[i]? = some x) : ∃ k, ns[i]? = some k ∧ x = V.int (k : Int) := by
  unfold ntL at h
  rw [List.getElem?_map] at h
  cases e : ns[i]? with
  | none =>
    rw [e] at h
    cases h
  | some z =>
    rw [e] at h
    exact ⟨z, rfl, (Option.some.inj h).symm⟩
theorem ntL_get {ns : List Nat} {i k : Nat} (h : ns[i]? = some k) : (ntL ns)[i]? = some (V.int (k : Int)) := by
  unfold ntL
  rw [List.getElem?_map, h]
  rfl
theorem ntL_range (n : Nat) : ntL (List.range n) = (List.range n).map fun (k : Nat) => V.int (k : Int) := rfl
theorem ntL_insert (xs : List Nat) (r i : Nat) : (ntL xs).take r ++ [V.int (i : Int)] ++ (ntL xs).drop r = ntL (xs.take r ++ [i] ++ xs.drop r) := by
  unfold ntL
  simp only [List.map_append, List.map_take, List.map_drop, List.map_cons, List.map_nil]
theorem rise_natlist {xs : List Nat} (h : xs.Pairwise (· < ·)) : (xs.map fun (k : Nat) => (k : Int)).Pairwise (· ≤ ·) := by
  rw [List.pairwise_map]
  exact h.imp fun h => by omega
/-- sorted of an order is the range -/
theorem sorted_order {ss : List Int} {os : List Nat} (pm : os.Perm (List.range os.length)) (h : ss.Perm (os.map fun (k : Nat) => (k : Int))) (hs : ss.Pairwise (· ≤ ·)) :
    ss = (List.range os.length).map fun (k : Nat) => (k : Int) :=
  List.Perm.eq_of_pairwise (fun a b _ _ h1 h2 => by omega) hs (rise_natlist List.pairwise_lt_range) (h.trans (pm.map _))
theorem perm_range_of {xs : List Nat} (nd : xs.Nodup) (h : ∀ x ∈ xs, x < xs.length) : xs.Perm (List.range xs.length) := by
  refine (List.perm_ext_iff_of_nodup nd List.nodup_range).mpr fun a => ⟨fun ha => List.mem_range.mpr (h a ha), fun ha => ?_⟩
  refine Classical.byContradiction fun hn => ?_
  have h1 : (a :: xs).Nodup := List.nodup_cons.mpr ⟨hn, nd⟩
  have h2 : (a :: xs) ⊆ List.range xs.length := fun b hb => by
    rcases List.mem_cons.mp hb with rfl | hb
    · exact ha
    · exact List.mem_range.mpr (h b hb)
  have h3 := h1.length_le_of_subset h2
  rw [List.length_cons, List.length_range] at h3
  omega
theorem order_nodup {os : List Nat} (pm : os.Perm (List.range os.length)) : os.Nodup := pm.nodup_iff.mpr List.nodup_range
theorem order_lt {os : List Nat} (pm : os.Perm (List.range os.length)) {k : Nat} (h : k ∈ os) : k < os.length := List.mem_range.mp (pm.mem_iff.mp h)
theorem order_mem {os : List Nat} (pm : os.Perm (List.range os.length)) {k : Nat} (h : k < os.length) : k ∈ os := pm.mem_iff.mpr (List.mem_range.mpr h)
/-- at each place the place at which that number stands -/
def undo (os : List Nat) : List Nat := (List.range os.length).map fun k => os.idxOf k
theorem undo_length (os : List Nat) : (undo os).length = os.length := by
  unfold undo
  rw [List.length_map, List.length_range]
theorem idxOf_of {os : List Nat} (nd : os.Nodup) {i k : Nat} (h : os[i]? = some k) : os.idxOf k = i := by
  obtain ⟨hi, e⟩ := List.getElem?_eq_some_iff.mp h
  rw [← e]
  exact nd.idxOf_getElem i hi
theorem get_idxOf {os : List Nat} {k : Nat} (h : k ∈ os) : os[os.idxOf k]? = some k := by
  have hl := List.idxOf_lt_length_of_mem h
  rw [List.getElem?_eq_getElem hl, List.getElem_idxOf hl]
theorem undo_get {os : List Nat} {k : Nat} (h : k < os.length) : (undo os)[k]? = some (os.idxOf k) := by
  unfold undo
  rw [List.getElem?_map, List.getElem?_range h]
  rfl
theorem undo_perm {os : List Nat} (pm : os.Perm (List.range os.length)) : (undo os).Perm (List.range (undo os).length) := by
  refine perm_range_of ?_ fun x hx => ?_
  · unfold undo List.Nodup
    rw [List.pairwise_map]
    refine List.Pairwise.imp_of_mem (fun {a b} ha hb hab e => hab ?_) List.nodup_range
    have h1 := get_idxOf (order_mem pm (List.mem_range.mp ha))
    have h2 := get_idxOf (order_mem pm (List.mem_range.mp hb))
    rw [e, h2] at h1
    exact (Option.some.inj h1).symm
  · rw [undo_length]
    obtain ⟨k, hk, rfl⟩ := List.mem_map.mp hx
    exact List.idxOf_lt_length_of_mem (order_mem pm (List.mem_range.mp hk))
/-! ### dicts of places -/
def rkv : List Int → Nat → List (Key × V)
  | [], _ => []
  | x :: r, i => (.inl x, .int (i : Nat)) :: rkv r (i + 1)
theorem rkv_length : ∀ (ss : List Int) (i : Nat), (rkv ss i).length = ss.length
  | [], _ => rfl
  | x :: r, i => by
    show (rkv r (i + 1)).length + 1 = r.length + 1
    rw [rkv_length r]
theorem rkv_snoc : ∀ (ss : List Int) (x : Int) (i : Nat), rkv (ss ++ [x]) i = rkv ss i ++ [(.inl x, .int ((i + ss.length : Nat) : Int))]
  | [], x, i => rfl
  | y :: r, x, i => by
    show (Sum.inl y, V.int (i : Nat)) :: rkv (r ++ [x]) (i + 1) = (Sum.inl y, V.int (i : Nat)) :: (rkv r (i + 1) ++ _)
    rw [rkv_snoc r x (i + 1)]
    have e : i + 1 + r.length = i + (y :: r).length := by rw [List.length_cons]; omega
    rw [e]
theorem rkv_any : ∀ (ss : List Int) (x : Int) (i : Nat), x ∉ ss → ((rkv ss i).any fun kv => decide (kv.1 = (Sum.inl x : Key))) = false
  | [], _, _, _ => rfl
  | y :: r, x, i, h => by
    show (decide ((Sum.inl y : Key) = Sum.inl x) || (rkv r (i + 1)).any _) = false
    rw [rkv_any r x (i + 1) fun z => h (List.mem_cons_of_mem _ z), Bool.or_false]
    refine decide_eq_false fun e => h ?_
    cases e
    exact List.mem_cons_self
theorem rkv_put {ss : List Int} {x : Int} {i : Nat} (h : x ∉ ss) : putK (rkv ss i) (.inl x) (.int ((i + ss.length : Nat) : Int)) = rkv (ss ++ [x]) i := by
  unfold putK
  rw [rkv_any ss x i h, if_neg Bool.false_ne_true, rkv_snoc]
theorem rkv_at : ∀ (ss : List Int) (x : Int) (i j : Nat), ss.Nodup → ss[j]? = some x → valV (rkv ss i) (.inl x) = some (.int ((i + j : Nat) : Int))
  | [], _, _, _, _, h => by simp at h
  | y :: r, x, i, 0, _, h => by
    simp at h
    subst h
    exact valV_pos rfl
  | y :: r, x, i, j + 1, hn, h => by
    have hn1 := List.nodup_cons.mp hn
    have h2 : r[j]? = some x := by simpa using h
    have e : ¬ y = x := fun e => hn1.1 (by rw [e]; exact List.mem_of_getElem? h2)
    have ih := rkv_at r x (i + 1) j hn1.2 h2
    show valV ((Sum.inl y, V.int (i : Nat)) :: rkv r (i + 1)) (Sum.inl x) = _
    rw [valV_neg (fun q => e (by cases q; rfl)), ih]
    congr 3
    omega
/-- the next number goes behind -/
theorem rkv_step {ss : List Int} {i : Nat} {z : Int} (nd : ss.Nodup) (hz : ss[i]? = some z) : putK (rkv (ss.take i) 0) (.inl z) (.int (i : Nat)) = rkv (ss.take (i + 1)) 0 := by
  have hi := lt_of_at hz
  have hz2 : z ∉ ss.take i := fun hm => by
    obtain ⟨j, hj⟩ := List.mem_iff_getElem?.mp hm
    rw [List.getElem?_take] at hj
    by_cases hji : j < i
    · rw [if_pos hji] at hj
      have := nd_ix nd hj hz
      omega
    · rw [if_neg hji] at hj
      cases hj
  have e5 : ss.take (i + 1) = ss.take i ++ [z] := by
    rw [List.take_add_one, hz]
    rfl
  have e6 : (ss.take i).length = i := by rw [List.length_take]; omega
  have e7 := rkv_put (ss := ss.take i) (x := z) (i := 0) hz2
  rw [e6, Nat.zero_add] at e7
  rw [e5, ← e7]
/-! ### ranks -/
def below (ns : List Int) (x : Int) : Nat := (ns.filter fun y => decide (y < x)).length
def ranksN (ns : List Int) : List Nat := ns.map fun x => below ns x
def ranks (ns : List Int) : List Int := ns.map fun x => (below ns x : Int)
theorem ranks_nat (ns : List Int) : intL (ranks ns) = ntL (ranksN ns) := by
  unfold ranks ranksN ntL
  show List.map V.int (List.map _ _) = _
  rw [List.map_map, List.map_map]
  rfl
theorem sorted_strict {ss : List Int} (h : ss.Pairwise (· ≤ ·)) (n : ss.Nodup) : ss.Pairwise (· < ·) := by
  refine List.Pairwise.imp_of_mem (S := (· < ·)) (fun {a b} _ _ hab => ?_) (h.and n)
  omega
theorem below_perm {ss ns : List Int} (p : ss.Perm ns) (x : Int) : (ss.filter fun y => decide (y < x)).length = below ns x := (p.filter _).length_eq
theorem sorted_below : ∀ {ss : List Int} {j : Nat} {x : Int}, ss.Pairwise (· < ·) → ss[j]? = some x → (ss.filter fun y => decide (y < x)).length = j
  | [], _, _, _, h => by simp at h
  | y :: r, 0, x, hs, h => by
    simp at h
    subst h
    have hs1 := List.pairwise_cons.mp hs
    have z : ((y :: r).filter fun z => decide (z < y)) = [] := by
      rw [List.filter_eq_nil_iff]
      intro z hz
      rcases List.mem_cons.mp hz with rfl | hz
      · simp
      · have := hs1.1 z hz
        simp
        omega
    rw [z]
    rfl
  | y :: r, j + 1, x, hs, h => by
    have hs1 := List.pairwise_cons.mp hs
    have h2 : r[j]? = some x := by simpa using h
    have ih := sorted_below hs1.2 h2
    have hy := hs1.1 x (List.mem_of_getElem? h2)
    rw [List.filter_cons, if_pos (decide_eq_true hy), List.length_cons, ih]
/-! ### lists told -/
theorem rev_ints (ns : List Int) : (intL ns).reverse = intL ns.reverse := by
  show (List.map V.int ns).reverse = List.map V.int ns.reverse
  rw [List.map_reverse]
theorem mtIndex (K : PySem.W.Frag) {X : Cx} (hK : X.K = K) : MtR X "list.index" (rIndex K) := hK ▸ mt_index
theorem r_index {K : PySem.W.Frag} {H : Hp} {Q : VK} {a : Addr} {os : List Nat} {k : Nat} (h : SqL K H a (ntL os)) (hk : k ∈ os) (q : Q (.int (os.idxOf k : Nat)) H) : rIndex K (.ref a) [.int (k : Int)] H Q := by
  refine ⟨a, ntL os, .int (k : Int), os.idxOf k, .int (k : Int), rfl, rfl, h, rfl, ?_, ntL_get (get_idxOf hk), ?_, fun m z' hm hz => ?_, q⟩
  · rw [List.all_eq_true]
    intro x hx
    unfold ntL at hx
    obtain ⟨y, _, rfl⟩ := List.mem_map.mp hx
    rfl
  · show ((k : Int) == (k : Int)) = true
    exact beq_self_eq_true _
  · obtain ⟨y, hy, rfl⟩ := ntL_at hz
    show ((y : Int) == (k : Int)) = false
    refine beq_eq_false_iff_ne.mpr fun e => ?_
    have e2 : y = k := by omega
    subst e2
    have h1 := lt_of_at hy
    have := List.not_of_lt_findIdx (xs := os) (p := fun x => x == y) (i := m) (by unfold List.idxOf at hm; exact hm)
    obtain ⟨_, e3⟩ := List.getElem?_eq_some_iff.mp hy
    rw [e3] at this
    simp at this
/-- a def that a local name holds -/
structure HeldF (P : Program) (w : World) (K : PySem.W.Frag) (mg : Str → Option Value) (base : Heap) (k : Nat) (f : Addr) (sp : Sp) : Prop where
  ex : ∃ (fd : FuncData) (ps : List Str), FnOk P w K mg base CX0 k f fd ps sp ∧ PySem.W.keepIn K (.ref f) = true ∧ Binds K fd ps []
def tCalH (P : Program) (w : World) (K : PySem.W.Frag) (mg : Str → Option Value) (base : Heap) (k i : Nat) (t : TA) : TE := fun σ H Q => ∃ f sp, σ[i]? = some (some (.ref f)) ∧ HeldF P w K mg base k f sp ∧ t σ H fun vs H1 => sp vs H1 Q E0
theorem r_calH {P : Program} {w : World} {K : PySem.W.Frag} {mg : Str → Option Value} {base : Heap} {k i : Nat} {t : TA} {σ : L2.St} {H : Hp} {Q : VK} (q : ∃ f sp, σ[i]? = some (some (.ref f)) ∧ HeldF P w K mg base k f sp ∧ t σ H fun vs H1 => sp vs H1 Q E0) : tCalH P w K mg base k i t σ H Q := q
theorem pe_calH {X : Cx} {k i : Nat} {x : Str} {p pos : Pos} {e : Expr} {es : List Expr} {t : TA} (hr : Room k X.A) (hN : X.N[i]? = some x) (hv : Vis X.env.scope x) (ha : PA X (e :: es) t)
    (hdb : (x == ("__debug__" : Str)) = false := by decide) (hcd : (x == ("__classdict__" : Str)) = false := by decide)
    (he : starEach (e :: es) X.env = (false, eval e X.env) :: starEach es X.env := by rfl) (hpl : (backTo pos (starEach es X.env)).any (·.1) = false := by rfl) : PE X (.Call (.Name x p) (e :: es) [] pos) (tCalH X.prog X.w X.K X.mg X.base k i t) := by
  refine ⟨fun pins s σ H Q I h => ?_⟩
  obtain ⟨f, sp, hs, hS, ht⟩ := h
  obtain ⟨fd, ps, F, hk, hb⟩ := hS.ex
  refine wpAny_Call_Name_kw (thn ((pe_var (pos := p) hN hv hdb hcd).run pins s σ H (fun v H1 => v = .ref f ∧ H1 = H) I ⟨.ref f, hs, rfl, rfl⟩) fun u s1 ⟨v, H1, I1, r1, q1⟩ => ?_)
  obtain ⟨rfl, rfl⟩ := q1
  cases r1
  refine PySem.W.callWith_K (h₀ := X.base) I.ok.mod.kin hk (thn (ha.run pos pins s1 σ _ _ I1 ht) fun us s2 ⟨vs, H2, I2, r, q⟩ => ⟨I2.kIn, ?_⟩) he hpl
  exact run_fn (dvs := []) (ds := []) F hr hb .nil pass0 I2 r (by rw [List.append_nil]; exact q)
end Px

set_option Elab.async false
set_option linter.all false
set_option maxRecDepth 100000
set_option maxHeartbeats 4000000
namespace Px
open PySem PySem.Spec PyProof.Rows L2
/-! ### comprehensions that change nothing: what they build -/
section
variable {K : PySem.W.Frag} {σ : L2.St} {H : Hp} {Q : VK} {te : TE} {tt : TT} {vs : List Nat} {j n : Nat} {a : Addr} {xs : List V} {ta : TA}
theorem r_lcR2 {g : TG} (q : ta σ H fun vs1 H1 => ∃ i j : Int, vs1 = [.int i, .int j] ∧ (-(2 ^ 62) ≤ i ∧ i < 2 ^ 62 ∧ -(2 ^ 62) ≤ j ∧ j < 2 ^ 62) ∧ lcJ (Itr i (j - i).toNat) g tt te vs σ H1 Q) : tLc (iRng2 ta) g tt te vs σ H Q := q
theorem r_lcR21 {g : TG} {z y lo : Int} {m : Nat} (hz : z = lo) (hy : y = lo + (m : Int)) (h1 : -1000000000 ≤ lo) (h2 : lo ≤ 1000000000) (hm : m ≤ 1000000000) (q : lcJ (Itr lo m) g tt te vs σ H Q) :
    ∃ i j : Int, [V.int z, V.int y] = [.int i, .int j] ∧ (-(2 ^ 62) ≤ i ∧ i < 2 ^ 62 ∧ -(2 ^ 62) ≤ j ∧ j < 2 ^ 62) ∧ lcJ (Itr i (j - i).toNat) g tt te vs σ H Q := by
  subst hz hy
  refine ⟨z, z + m, rfl, ⟨by omega, by omega, by omega, by omega⟩, ?_⟩
  rw [show (z + (m : Int) - z).toNat = m by omega]
  exact q
/-- over a range: f of each turn -/
theorem lcR_map {lo : Int} (f : Nat → V) (hn : n ≤ 100000) (hw : ∀ x, wipe ((wipe σ vs).set j (some x)) vs = wipe σ vs)
    (hs : ∀ (i : Nat) (H' : Hp) (R : VK), i < n → Same H H' → (∀ H'', Same H' H'' → R (f i) H'') → te ((wipe σ vs).set j (some (.int (lo + (i : Nat))))) H' R)
    (q : ∀ D H', H D = none → Same H H' → H' D = some (.lst ((List.range n).map f)) → Q (.ref D) H') : lcJ (Itr lo n) (gName j) tYes te vs σ H Q := fun D hD =>
  lc_range (n := n) (fun i H' => Same H H' ∧ H' D = some (.lst ((List.range i).map f))) ⟨same_new hD, upd_same⟩ (fun i H' hi ⟨s4, e4⟩ => ⟨hw _, by
    refine r_yes (iteT ?_)
    refine hs i H' _ hi s4 fun H'' s5 => ⟨_, s5 _ _ e4, r_smalll (by rw [List.length_map, List.length_range]; omega), same_mut (s4.trans s5) hD, ?_⟩
    rw [upd_same, List.range_succ, List.map_append]
    rfl⟩) fun H' ⟨s4, e4⟩ => q D H' hD s4 e4
/-- over a range, some left out -/
theorem lcR_filter {lo : Int} (p : Nat → Bool) (f : Nat → V) (hn : n ≤ 100000) (hw : ∀ x, wipe ((wipe σ vs).set j (some x)) vs = wipe σ vs)
    (ht : ∀ (i : Nat) (H' : Hp) (R : Bool → Hp → Prop), i < n → Same H H' → (∀ H'', Same H' H'' → R (p i) H'') → tt ((wipe σ vs).set j (some (.int (lo + (i : Nat))))) H' R)
    (hs : ∀ (i : Nat) (H' : Hp) (R : VK), i < n → p i = true → Same H H' → (∀ H'', Same H' H'' → R (f i) H'') → te ((wipe σ vs).set j (some (.int (lo + (i : Nat))))) H' R)
    (q : ∀ D H', H D = none → Same H H' → H' D = some (.lst (((List.range n).filter p).map f)) → Q (.ref D) H') : lcJ (Itr lo n) (gName j) tt te vs σ H Q := fun D hD =>
  lc_range (n := n) (fun i H' => Same H H' ∧ H' D = some (.lst (((List.range i).filter p).map f))) ⟨same_new hD, upd_same⟩ (fun i H' hi ⟨s4, e4⟩ => ⟨hw _, by
    have e5 : (List.range (i + 1)).filter p = (List.range i).filter p ++ [i].filter p := by rw [List.range_succ, List.filter_append]
    refine ht i H' _ hi s4 fun H2 s5 => ?_
    cases hp : p i with
    | true =>
      refine iteT ?_
      have hl := List.length_filter_le p (List.range i)
      rw [List.length_range] at hl
      refine hs i H2 _ hi hp (s4.trans s5) fun H'' s6 => ⟨_, s6 _ _ (s5 _ _ e4), r_smalll (by rw [List.length_map]; omega), same_mut ((s4.trans s5).trans s6) hD, ?_⟩
      rw [upd_same, e5, List.filter_cons, if_pos hp, List.filter_nil, List.map_append]
      rfl
    | false =>
      refine iteF ?_
      refine ⟨s4.trans s5, ?_⟩
      rw [e5, List.filter_cons, if_neg (by rw [hp]; exact Bool.false_ne_true), List.filter_nil, List.append_nil]
      exact s5 _ _ e4⟩) fun H' ⟨s4, e4⟩ => q D H' hD s4 e4
/-- over a list: f of each item -/
theorem lcL_map (f : V → V) (hx : SqL K H a xs) (hn : xs.length ≤ 100000) (hw : ∀ x, wipe ((wipe σ vs).set j (some x)) vs = wipe σ vs)
    (hs : ∀ (i : Nat) (x : V) (H' : Hp) (R : VK), xs[i]? = some x → Same H H' → (∀ H'', Same H' H'' → R (f x) H'') → te ((wipe σ vs).set j (some x)) H' R)
    (q : ∀ D H', H D = none → Same H H' → H' D = some (.lst (xs.map f)) → Q (.ref D) H') : lcJ (Itl K a) (gName j) tYes te vs σ H Q := fun D hD =>
  lc_list (xs := xs) (fun i H' => Same H H' ∧ H' D = some (.lst ((xs.take i).map f))) ⟨same_new hD, upd_same⟩ (fun i H' _ p => p.1.seq hx) (fun i x H' hi ⟨s4, e4⟩ => ⟨hw _, by
    refine r_yes (iteT ?_)
    have hi2 := lt_of_at hi
    refine hs i x H' _ hi s4 fun H'' s5 => ⟨_, s5 _ _ e4, r_smalll (by rw [List.length_map, List.length_take]; omega), same_mut (s4.trans s5) hD, ?_⟩
    rw [upd_same, List.take_add_one, hi, List.map_append]
    rfl⟩) fun H' ⟨s4, e4⟩ => q D H' hD s4 (by rw [List.take_length] at e4; exact e4)
/-- over a list, some left out -/
theorem lcL_filter (p : V → Bool) (f : V → V) (hx : SqL K H a xs) (hn : xs.length ≤ 100000) (hw : ∀ x, wipe ((wipe σ vs).set j (some x)) vs = wipe σ vs)
    (ht : ∀ (i : Nat) (x : V) (H' : Hp) (R : Bool → Hp → Prop), xs[i]? = some x → Same H H' → (∀ H'', Same H' H'' → R (p x) H'') → tt ((wipe σ vs).set j (some x)) H' R)
    (hs : ∀ (i : Nat) (x : V) (H' : Hp) (R : VK), xs[i]? = some x → p x = true → Same H H' → (∀ H'', Same H' H'' → R (f x) H'') → te ((wipe σ vs).set j (some x)) H' R)
    (q : ∀ D H', H D = none → Same H H' → H' D = some (.lst ((xs.filter p).map f)) → Q (.ref D) H') : lcJ (Itl K a) (gName j) tt te vs σ H Q := fun D hD =>
  lc_list (xs := xs) (fun i H' => Same H H' ∧ H' D = some (.lst (((xs.take i).filter p).map f))) ⟨same_new hD, upd_same⟩ (fun i H' _ p => p.1.seq hx) (fun i x H' hi ⟨s4, e4⟩ => ⟨hw _, by
    have hi2 := lt_of_at hi
    have e5 : (xs.take (i + 1)).filter p = (xs.take i).filter p ++ [x].filter p := by
      rw [List.take_add_one, hi, List.filter_append]
      rfl
    refine ht i x H' _ hi s4 fun H2 s5 => ?_
    cases hp : p x with
    | true =>
      refine iteT ?_
      have hl := List.length_filter_le p (xs.take i)
      rw [List.length_take] at hl
      refine hs i x H2 _ hi hp (s4.trans s5) fun H'' s6 => ⟨_, s6 _ _ (s5 _ _ e4), r_smalll (by rw [List.length_map]; omega), same_mut ((s4.trans s5).trans s6) hD, ?_⟩
      rw [upd_same, e5, List.filter_cons, if_pos hp, List.filter_nil, List.map_append]
      rfl
    | false =>
      refine iteF ?_
      refine ⟨s4.trans s5, ?_⟩
      rw [e5, List.filter_cons, if_neg (by rw [hp]; exact Bool.false_ne_true), List.filter_nil, List.append_nil]
      exact s5 _ _ e4⟩) fun H' ⟨s4, e4⟩ => q D H' hD s4 (by rw [List.take_length] at e4; exact e4)
end
end Px

set_option Elab.async false
set_option linter.all false
set_option maxRecDepth 100000
set_option maxHeartbeats 4000000
namespace K06
open PySem PySem.Spec PyProof.Rows L2 Px
def topS (i : Nat) : Stmt := PySem.Challenge.pw_pilenets_k06_whole_rows_there_and_back.main.body.getD i (.Pass ⟨0, 0, 0, 0⟩)
abbrev s_put_to_order : Stmt := topS 4
theorem sc_put_to_order : FnScope ["row", "ranks", "rank", "number"] ["row"] (defScope s_put_to_order) := ⟨rfl, rfl, rfl, by decide +kernel, rfl, by decide +kernel, by decide +kernel⟩
abbrev s_turned_about : Stmt := topS 5
theorem sc_turned_about : FnScope ["row"] ["row"] (defScope s_turned_about) := ⟨rfl, rfl, rfl, by decide +kernel, rfl, by decide +kernel, by decide +kernel⟩
abbrev s_undone_row : Stmt := topS 6
theorem sc_undone_row : FnScope ["row", "places", "place", "number"] ["row"] (defScope s_undone_row) := ⟨rfl, rfl, rfl, by decide +kernel, rfl, by decide +kernel, by decide +kernel⟩
abbrev s_refuse_alike : Stmt := topS 7
theorem sc_refuse_alike : FnScope ["row"] ["row"] (defScope s_refuse_alike) := ⟨rfl, rfl, rfl, by decide +kernel, rfl, by decide +kernel, by decide +kernel⟩
abbrev s__law_stir : Stmt := topS 9
theorem sc__law_stir : FnScope ["cell", "k", "number"] ["cell", "k"] (defScope s__law_stir) := ⟨rfl, rfl, rfl, by decide +kernel, rfl, by decide +kernel, by decide +kernel⟩
abbrev s__law_deck : Stmt := topS 10
theorem sc__law_deck : FnScope ["cell"] ["cell"] (defScope s__law_deck) := ⟨rfl, rfl, rfl, by decide +kernel, rfl, by decide +kernel, by decide +kernel⟩
abbrev s__law_take : Stmt := topS 11
theorem sc__law_take : FnScope ["deck", "many", "taken"] ["deck", "many"] (defScope s__law_take) := ⟨rfl, rfl, rfl, by decide +kernel, rfl, by decide +kernel, by decide +kernel⟩
abbrev s__law_order : Stmt := topS 12
theorem sc__law_order : FnScope ["deck", "many", "found", "k"] ["deck", "many"] (defScope s__law_order) := ⟨rfl, rfl, rfl, by decide +kernel, rfl, by decide +kernel, by decide +kernel⟩
abbrev s__law_numbers : Stmt := topS 13
theorem sc__law_numbers : FnScope ["deck", "many", "number", "found", "k"] ["deck", "many"] (defScope s__law_numbers) := ⟨rfl, rfl, rfl, by decide +kernel, rfl, by decide +kernel, by decide +kernel⟩
abbrev s__law_row : Stmt := topS 14
theorem sc__law_row : FnScope ["deck", "most", "many", "numbers", "k"] ["deck", "most"] (defScope s__law_row) := ⟨rfl, rfl, rfl, by decide +kernel, rfl, by decide +kernel, by decide +kernel⟩
abbrev s__law_right : Stmt := topS 15
theorem sc__law_right : FnScope ["row", "other", "order", "many", "k", "j", "undone", "place"] ["row", "other"] (defScope s__law_right) := ⟨rfl, rfl, rfl, by decide +kernel, rfl, by decide +kernel, by decide +kernel⟩
abbrev s_law : Stmt := topS 16
theorem sc_law : FnScope ["script", "cell", "deck", "many", "order", "one", "other", "k"] ["script"] (defScope s_law) := ⟨rfl, rfl, rfl, by decide +kernel, rfl, by decide +kernel, by decide +kernel⟩
structure Top (K : PySem.W.Frag) (mg : Str → Option Value) : Prop where
  d_put_to_order : Dfn K mg "put_to_order" s_put_to_order
  d_turned_about : Dfn K mg "turned_about" s_turned_about
  d_undone_row : Dfn K mg "undone_row" s_undone_row
  d_refuse_alike : Dfn K mg "refuse_alike" s_refuse_alike
  d__law_stir : Dfn K mg "_law_stir" s__law_stir
  d__law_deck : Dfn K mg "_law_deck" s__law_deck
  d__law_take : Dfn K mg "_law_take" s__law_take
  d__law_order : Dfn K mg "_law_order" s__law_order
  d__law_numbers : Dfn K mg "_law_numbers" s__law_numbers
  d__law_row : Dfn K mg "_law_row" s__law_row
  d__law_right : Dfn K mg "_law_right" s__law_right
  d_law : Dfn K mg "law" s_law
  b_enumerate : mg "enumerate" = none
  b_sorted : mg "sorted" = none
  b_list : mg "list" = none
  b_reversed : mg "reversed" = none
  b_range : mg "range" = none
  b_len : mg "len" = none
  b_set : mg "set" = none
local macro_rules | `(tactic| walk_at "rd1") => `(tactic| first
  | ((with_reducible apply r_var); exact rfl) | with_reducible refine r_c ?_ | with_reducible refine r_seq ?_ | with_reducible refine r_next ?_ | with_reducible refine r_set ?_
  | with_reducible refine r_ret ?_ | with_reducible refine r_retN ?_ | with_reducible refine r_drop ?_ | with_reducible refine r_if ?_ | with_reducible refine r_test ?_ | with_reducible refine r_bl ?_
  | with_reducible refine r_op ?_ | with_reducible refine r_I0 ?_ | with_reducible refine r_I ?_ ?_ | with_reducible refine r_eqI ?_ | with_reducible refine r_neI ?_ | with_reducible refine r_eqB ?_ | with_reducible refine r_neB ?_ | with_reducible refine r_eqS ?_ | with_reducible refine r_neS ?_ | with_reducible refine r_andV ?_ | with_reducible refine r_orV ?_ | with_reducible refine r_notV ?_ | with_reducible refine r_nil ?_ | with_reducible refine r_cons ?_
  | with_reducible refine r_cal ?_ | with_reducible refine r_CB ?_ | with_reducible refine r_BM ?_ | with_reducible refine r_BM0 ?_ | with_reducible refine r_un ?_ | with_reducible refine r_U ?_
  | with_reducible refine r_and ?_ | with_reducible refine r_or ?_ | with_reducible refine r_not ?_ | with_reducible refine r_lst ?_ | with_reducible refine r_tup ?_ | with_reducible refine r_brk ?_ | with_reducible refine r_cont ?_ | with_reducible refine r_ifE ?_ | with_reducible refine r_tB ?_ | with_reducible refine r_gName ?_
  | with_reducible refine iteNF ?_ | with_reducible refine iteNT ?_ | with_reducible refine iteT ?_ | with_reducible refine iteF ?_ | with_reducible refine r_asg ?_ | with_reducible refine r_lrg1 ?_ | with_reducible refine r_yes ?_ | with_reducible refine r_lenSet ?_ | with_reducible refine r_dget ?_ | with_reducible refine r_slice ?_ | with_reducible refine r_noPart ?_ | with_reducible refine r_part ?_ | with_reducible refine r_int ?_ | with_reducible refine r_lrev ?_ | with_reducible refine r_calH ?_)
local macro_rules | `(tactic| walk_at "rd") => `(tactic| repeat' walk_at "rd1")
local macro_rules | `(tactic| walk_at "nn") => `(tactic| try simp only [Int.reduceToNat, Int.reducePow, Int.reduceAdd, Int.reduceMul, Int.reduceSub, Int.reduceNeg])
local macro_rules | `(tactic| walk_at "nns") => `(tactic| try simp only [Int.reduceToNat, Int.reducePow, Int.reduceAdd, Int.reduceMul, Int.reduceSub, Int.reduceNeg] at *)
local macro_rules | `(tactic| walk_at "pw") => `(tactic| exact ⟨by decide, by decide, by decide⟩)
local macro_rules | `(tactic| walk_at "sz") => `(tactic| exact r_small (by simp only [List.length_cons, List.length_nil, List.length_map]; omega))
local macro_rules | `(tactic| walk_at "bn") => `(tactic| simp only [decide_true, decide_false, Bool.not_true, Bool.not_false, Bool.or_false, Bool.false_or, Bool.or_true, Bool.true_or, Bool.and_true, Bool.true_and, Bool.and_false, Bool.false_and])

section
variable {P : Program} {w : World} {K : PySem.W.Frag} {mg : Str → Option Value} {base : Heap}
def spStir : Sp := fun vs H Q _ => ∃ c k : Int, vs = [.int c, .int k] ∧ (k = 1 ∨ k = 2 ∨ k = 3) ∧ ∀ r : Int, 0 ≤ r → r < 10 ^ 61 → Q (.int r) H
theorem ok_stir (T : Top K mg) : Cal P w K mg base CX0 1 "_law_stir" ["cell", "k"] spStir := Cal.of T.d__law_stir (fun _ _ _ _ _ _ us hl => match us, hl with | [_, _], _ => rfl) fun f fd F => by
  refine F.ok sc__law_stir (fun vs H Q E h => ?_) (fun cdv A outer s H vs Q E hr h => ?_)
  · obtain ⟨c, k, rfl, _⟩ := h
    rfl
  · obtain ⟨c, k, rfl, hk, q⟩ := h
    refine ⟨_, (Evl.pss_cut (ps_set (i := 2) sc__law_stir.nd rfl (by first | exact Or.inl rfl | exact Or.inr rfl) (pe_op op_add (pe_op op_add (pe_op op_mulW (pe_op op_mod (pv 0) (pe_op op_pow pe_int pe_int)) pe_int) (pe_op op_mulW (pe_op op_mulW (pe_op op_pow pe_int pe_int) (pe_op op_add (pv 1) pe_int)) (pe_op op_add (pv 1) pe_int))) (pv 1)))
      (Evl.pss_cut (ps_set (i := 2) sc__law_stir.nd rfl (by first | exact Or.inl rfl | exact Or.inr rfl) (pe_op op_add (pe_op op_mulW (pv 2) (pv 2)) (pe_op op_mulW pe_int (pv 2))))
      (pss_one (ps_ret (pe_op op_fdivW (pe_op op_mod (pe_op op_mulW (pv 2) (pv 2)) (pe_op op_add (pe_op op_pow pe_int pe_int) pe_int)) pe_int))))), ?_⟩
    refine r_st (σ' := [some (.int c), some (.int k), none]) rfl ?_
    refine Evl.q_cut (M := fun σ H' => ∃ n : Int, 0 ≤ n ∧ n < 10 ^ 50 ∧ σ = [some (.int c), some (.int k), some (.int n)] ∧ H = H') ?_ ?_
    · walk_at "rd"
      · refine ⟨_, ?_, ?_, rfl, rfl⟩
        · rcases hk with rfl | rfl | rfl <;> walk_at "nn" <;> omega
        · rcases hk with rfl | rfl | rfl <;> walk_at "nn" <;> omega
      · rcases hk with rfl | rfl | rfl <;> exact wide_mul (a := 200) (b := 100) (by walk_at "nns" <;> omega) (by walk_at "nns" <;> omega) (by omega) (by omega) (by omega)
      · rcases hk with rfl | rfl | rfl <;> exact wide_mul (a := 200) (b := 100) (by walk_at "nns" <;> omega) (by walk_at "nns" <;> omega) (by omega) (by omega) (by omega)
      · walk_at "pw"
      · exact wide_mul (a := 200) (b := 100) (by walk_at "nns" <;> omega) (by walk_at "nns" <;> omega) (by omega) (by omega) (by omega)
      · walk_at "nn" <;> omega
      · walk_at "pw"
    rintro _ _ ⟨n, n0, n1, rfl, rfl⟩
    refine Evl.q_cut (M := fun σ H' => ∃ m : Int, 0 ≤ m ∧ m < 10 ^ 101 ∧ σ = [some (.int c), some (.int k), some (.int m)] ∧ H = H') ?_ ?_
    · have hm : n * n < 10 ^ 100 := by
        have := mul_lt_of n0 n1 n0 n1
        walk_at "nns"
        walk_at "nn"
        omega
      have h0 : 0 ≤ n * n := Int.mul_nonneg n0 n0
      walk_at "rd"
      · refine ⟨_, ?_, ?_, rfl, rfl⟩
        · omega
        · walk_at "nns" <;> walk_at "nn" <;> walk_at "nns" <;> omega
      · exact wide_mul (a := 200) (b := 200) (by omega) (by walk_at "nns" <;> omega) (by omega) (by omega) (by omega)
      · exact wide_mul (a := 200) (b := 200) (by walk_at "nns" <;> omega) (by walk_at "nns" <;> omega) (by omega) (by omega) (by omega)
    rintro _ _ ⟨m, m0, m1, rfl, rfl⟩
    walk_at "rd"
    · refine q _ ?_ ?_
      · refine Int.ediv_nonneg (Int.emod_nonneg _ ?_) (by decide)
        walk_at "nn"
        omega
      · have := Int.emod_lt_of_pos (m * m) (b := 10 ^ Int.toNat 61 + 7) (by walk_at "nns" <;> omega)
        walk_at "nns"
        walk_at "nn"
        omega
    · exact wide_div (b := 10) (by decide) (by decide) (by decide) (by decide)
    · walk_at "nn" <;> omega
    · walk_at "pw"
    · exact wide_mul (a := 400) (b := 400) (by walk_at "nns" <;> omega) (by walk_at "nns" <;> omega) (by omega) (by omega) (by omega)

def spDeck : Sp := fun vs H Q _ => ∃ c : Int, vs = [.int c] ∧ ∀ p H', H p = none → Same H H' → Dk H' p → Q (.ref p) H'
theorem ok_deck (T : Top K mg) : Cal P w K mg base CX0 2 "_law_deck" ["cell"] spDeck := Cal.of T.d__law_deck (fun _ _ _ _ _ _ us hl => match us, hl with | [_], _ => rfl) fun f fd F => by
  have C__law_stir : Cal P w K mg base CX0 1 "_law_stir" _ _ := ok_stir T
  refine F.ok sc__law_deck (fun vs H Q E h => ?_) (fun cdv A outer s H vs Q E hr h => ?_)
  · obtain ⟨c, rfl, _⟩ := h
    rfl
  · obtain ⟨c, rfl, q⟩ := h
    refine ⟨_, (pss_cons (ps_if (pt_cmpR op_ge (pv 0) (pe_op op_pow pe_int pe_int) (nomark _)) (pss_one (ps_ret (pe_lst (pa_cons (pe_op op_sub (pv 0) (pe_op op_pow pe_int pe_int)) pa_nil)))) pss_nil)
      (pss_one (ps_ret (pe_lst (pa_cons (pe_op op_add (pe_op op_mulW (pe_op op_add (pe_op op_mulW (pe_cal C__law_stir (hr.mono (by first | decide | omega)) pass0 (pa_cons (pv 0) (pa_cons pe_int pa_nil))) (pe_op op_pow pe_int pe_int)) (pe_cal C__law_stir (hr.mono (by first | decide | omega)) pass0 (pa_cons (pv 0) (pa_cons pe_int pa_nil)))) (pe_op op_pow pe_int pe_int)) (pe_cal C__law_stir (hr.mono (by first | decide | omega)) pass0 (pa_cons (pv 0) (pa_cons pe_int pa_nil)))) pa_nil))))), ?_⟩
    refine r_st (σ' := [some (.int c)]) rfl ?_
    walk_at "rd"
    · refine ite2 (fun hc => ?_) (fun hc => ?_)
      · have hc := of_decide_eq_true hc
        walk_at "nns"
        walk_at "rd"
        · exact ⟨by walk_at "sz", fun p hp => q p _ hp (same_new hp) ⟨_, by walk_at "nns" <;> omega, upd_same⟩⟩
        · walk_at "pw"
      · walk_at "rd"
        refine ⟨_, _, rfl, .inl rfl, fun a a0 a1 => ?_⟩
        walk_at "rd"
        · refine ⟨_, _, rfl, .inr (.inl rfl), fun b b0 b1 => ?_⟩
          walk_at "rd"
          · refine ⟨_, _, rfl, .inr (.inr rfl), fun c c0 c1 => ?_⟩
            walk_at "rd"
            exact ⟨by walk_at "sz", fun p hp => q p _ hp (same_new hp) ⟨_, by walk_at "nns" <;> omega, upd_same⟩⟩
          · exact wide_mul (a := 500) (b := 250) (by walk_at "nns" <;> omega) (by walk_at "nns" <;> omega) (by omega) (by omega) (by omega)
          · walk_at "pw"
        · exact wide_mul (a := 250) (b := 250) (by walk_at "nns" <;> omega) (by walk_at "nns" <;> omega) (by omega) (by omega) (by omega)
        · walk_at "pw"
    · walk_at "pw"

def spTake : Sp := fun vs H Q _ => ∃ (p : Addr) (m : Int), vs = [.ref p, .int m] ∧ Dk H p ∧ 0 < m ∧ m < 10 ^ 70 ∧ ∀ (r : Int) (H' : Hp), 0 ≤ r → r < m → Upto p H H' → Dk H' p → Q (.int r) H'
theorem ok_take (T : Top K mg) : Cal P w K mg base CX0 1 "_law_take" ["deck", "many"] spTake := Cal.of T.d__law_take (fun _ _ _ _ _ _ us hl => match us, hl with | [_, _], _ => rfl) fun f fd F => by
  refine F.ok sc__law_take (fun vs H Q E h => ?_) (fun cdv A outer s H vs Q E hr h => ?_)
  · obtain ⟨p, m, rfl, _⟩ := h
    rfl
  · obtain ⟨p, m, rfl, ⟨d, d0, hd⟩, m0, m1, q⟩ := h
    refine ⟨_, (pss_cons (ps_set (i := 2) sc__law_take.nd rfl (by first | exact Or.inl rfl | exact Or.inr rfl) (pe_op op_mod (pixL K (by rfl) (pv 0) pe_int (fun _ _ => rfl)) (pv 1)))
      (pss_cons (ps_asg (pe_op op_fdivW (pixL K (by rfl) (pv 0) pe_int (fun _ _ => rfl)) (pv 1)) (pg_sub (pv 0) pe_int set_list))
      (pss_one (ps_ret (pv 2))))), ?_⟩
    refine r_st (σ' := [some (.ref p), some (.int m), none]) rfl ?_
    walk_at "rd"
    refine r_ixL (seq_of hd) at0 ?_
    walk_at "rd"
    · refine r_ixL (seq_of hd) at0 ?_
      walk_at "rd"
      · show tVar 0 _ _ _
        walk_at "rd"
        refine r_setL hd rfl ?_
        walk_at "rd"
        exact q _ _ (Int.emod_nonneg _ (by omega)) (Int.emod_lt_of_pos _ m0) upto_upd ⟨_, Int.ediv_nonneg d0 (by omega), upd_same⟩
      · exact wide_div (b := 300) m0 (by walk_at "nns" <;> omega) (by omega) (by omega)
    · exact m0

def spOrder : Sp := fun vs H Q _ => ∃ (p : Addr) (n : Nat), vs = [.ref p, .int n] ∧ Dk H p ∧ n ≤ 1000 ∧ ∀ (l : Addr) (H' : Hp) (xs : List Nat), H l = none → Upto p H H' → Dk H' p → H' l = some (.lst (ntL xs)) → xs.Perm (List.range n) → Q (.ref l) H'
theorem ok_order (T : Top K mg) : Cal P w K mg base CX0 2 "_law_order" ["deck", "many"] spOrder := Cal.of T.d__law_order (fun _ _ _ _ _ _ us hl => match us, hl with | [_, _], _ => rfl) fun f fd F => by
  have C__law_take : Cal P w K mg base CX0 1 "_law_take" _ _ := ok_take T
  refine F.ok sc__law_order (fun vs H Q E h => ?_) (fun cdv A outer s H vs Q E hr h => ?_)
  · obtain ⟨p, n, rfl, _⟩ := h
    rfl
  · obtain ⟨p, n, rfl, hd, hn, q⟩ := h
    refine ⟨_, (pss_cons (ps_set (i := 2) sc__law_order.nd rfl (by first | exact Or.inl rfl | exact Or.inr rfl) (pe_lst pa_nil))
      (pss_cons (ps_for PassesOwn.never rfl (pi_range1 (by rfl) T.b_range (pa_cons (pv 1) pa_nil)) (pg_name (i := 3) sc__law_order.nd rfl (by first | exact Or.inl rfl | exact Or.inr rfl)) (pss_one (ps_expr (pbm K (by rfl) PySem.F.plainAttrs_list PySem.F.slot_list_insert PySem.F.type_list_insert mt_insert (pv 2) (pa_cons (pe_cal C__law_take (hr.mono (by first | decide | omega)) pass0 (pa_cons (pv 0) (pa_cons (pe_op op_add (pv 3) pe_int) pa_nil))) (pa_cons (pv 3) pa_nil))))))
      (pss_one (ps_ret (pv 2))))), ?_⟩
    refine r_st (σ' := [some (.ref p), some (.int n), none, none]) rfl ?_
    walk_at "rd"
    refine ⟨r_small (by decide), fun l hl => ?_⟩
    refine r_seq ?_
    refine r_forR1 ?_
    walk_at "rd"
    refine r_rng1 (m := n) rfl (by omega) (fun i σ H' => ∃ (xs : List Nat) (v : Option V), σ = [some (.ref p), some (.int n), some (.ref l), v] ∧ Upto p H H' ∧ Dk H' p ∧ H' l = some (.lst (ntL xs)) ∧ xs.Perm (List.range i))
      ⟨[], none, rfl, same_upto (same_new hl), hd.upd (hd.ne hl), upd_same, by rfl⟩ ?_ ?_
    · rintro i σ H' hi ⟨xs, v, rfl, u1, d1, h1, pm⟩
      have hlen : xs.length = i := by rw [pm.length_eq, List.length_range]
      walk_at "rd"
      refine ⟨tyV_list (seq_of h1), ?_⟩
      walk_at "rd"
      refine ⟨p, _, rfl, d1, by omega, by omega, fun r H2 r0 r1 u2 d2 => ?_⟩
      walk_at "rd"
      have nl : l ≠ p := (hd.ne hl).symm
      have h2 := u2 _ _ nl h1
      obtain ⟨j, rfl⟩ : ∃ j : Nat, r = (j : Int) := ⟨r.toNat, by omega⟩
      refine ⟨l, _, _, _, rfl, rfl, h2, r_smalll (by unfold ntL; rw [List.length_map]; omega), r0, by omega, ?_⟩
      walk_at "rd"
      refine ⟨xs.take j ++ [i] ++ xs.drop j, some (.int i), rfl, upto_mut (u1.trans u2) hl, d2.upd nl.symm, ?_, ?_⟩
      · rw [upd_same, Int.toNat_natCast, ntL_insert]
      · rw [List.range_succ]
        have e1 : (xs.take j ++ [i] ++ xs.drop j).Perm (i :: xs) := by
          have e2 : xs.take j ++ [i] ++ xs.drop j = xs.take j ++ i :: xs.drop j := by simp
          rw [e2]
          exact List.perm_middle.trans (List.Perm.cons i (by rw [List.take_append_drop]))
        exact (e1.trans (List.Perm.cons i pm)).trans (List.perm_append_comm (l₁ := [i]) (l₂ := List.range i)) 
    · rintro σ H' ⟨xs, v, rfl, u1, d1, h1, pm⟩
      walk_at "rd"
      exact q l H' xs hl u1 d1 h1 pm

/-- ints that rise -/
def Rise (ns : List Int) : Prop := ns.Pairwise (· < ·)
theorem Rise.snoc {ns : List Int} {x : Int} (h : Rise ns) (hx : ∀ y ∈ ns, y < x) : Rise (ns ++ [x]) := List.pairwise_append.mpr ⟨h, List.pairwise_singleton _ _, fun a ha b hb => by
  rw [List.mem_singleton.mp hb]
  exact hx a ha⟩
theorem Rise.nodup {ns : List Int} (h : Rise ns) : ns.Nodup := h.imp fun h => by omega
theorem rise_range (n : Nat) : Rise ((List.range n).map fun (k : Nat) => (k : Int)) := by
  unfold Rise
  rw [List.pairwise_map]
  exact List.pairwise_lt_range.imp fun h => by omega
def spNumbers : Sp := fun vs H Q _ => ∃ (p : Addr) (n : Nat), vs = [.ref p, .int n] ∧ Dk H p ∧ n ≤ 1000 ∧ ∀ (l : Addr) (H' : Hp) (ns : List Int), H l = none → Upto p H H' → Dk H' p → H' l = some (.lst (intL ns)) → ns.length = n → Rise ns → Q (.ref l) H'
theorem ok_numbers (T : Top K mg) : Cal P w K mg base CX0 2 "_law_numbers" ["deck", "many"] spNumbers := Cal.of T.d__law_numbers (fun _ _ _ _ _ _ us hl => match us, hl with | [_, _], _ => rfl) fun f fd F => by
  have C__law_take : Cal P w K mg base CX0 1 "_law_take" _ _ := ok_take T
  refine F.ok sc__law_numbers (fun vs H Q E h => ?_) (fun cdv A outer s H vs Q E hr h => ?_)
  · obtain ⟨p, n, rfl, _⟩ := h
    rfl
  · obtain ⟨p, n, rfl, hd, hn, q⟩ := h
    refine ⟨_, (pss_cons (ps_if (pt_cmpR op_eq (pe_cal C__law_take (hr.mono (by first | decide | omega)) pass0 (pa_cons (pv 0) (pa_cons pe_int pa_nil))) pe_int (nomark _)) (pss_one (ps_ret (pe_listRg (by rfl) (by rfl) T.b_list (prg_1 (by rfl) T.b_range (pv 1))))) pss_nil)
      (pss_cons (ps_set (i := 2) sc__law_numbers.nd rfl (by first | exact Or.inl rfl | exact Or.inr rfl) (pe_op op_mulW (pe_cal C__law_take (hr.mono (by first | decide | omega)) pass0 (pa_cons (pv 0) (pa_cons (pixL K (by rfl) (pe_lst (pa_cons pe_int (pa_cons (pe_op op_pow pe_int pe_int) (pa_cons (pe_op op_pow pe_int pe_int) pa_nil)))) (pe_cal C__law_take (hr.mono (by first | decide | omega)) pass0 (pa_cons (pv 0) (pa_cons pe_int pa_nil))) (fun _ _ => rfl)) pa_nil))) (pixL K (by rfl) (pe_lst (pa_cons pe_int (pa_cons (pe_un un_neg pe_int) pa_nil))) (pe_cal C__law_take (hr.mono (by first | decide | omega)) pass0 (pa_cons (pv 0) (pa_cons pe_int pa_nil))) (fun _ _ => rfl))))
      (pss_cons (ps_set (i := 3) sc__law_numbers.nd rfl (by first | exact Or.inl rfl | exact Or.inr rfl) (pe_lst pa_nil))
      (pss_cons (ps_for PassesOwn.never rfl (pi_range1 (by rfl) T.b_range (pa_cons (pv 1) pa_nil)) (pg_name (i := 4) sc__law_numbers.nd rfl (by first | exact Or.inl rfl | exact Or.inr rfl)) (pss_cons (ps_expr (pbm K (by rfl) PySem.F.plainAttrs_list PySem.F.slot_list_append PySem.F.type_list_append mt_append (pv 3) (pa_cons (pv 2) pa_nil)))
      (pss_one (ps_set (i := 2) sc__law_numbers.nd rfl (by first | exact Or.inl rfl | exact Or.inr rfl) (pe_op op_add (pe_op op_add (pv 2) pe_int) (pe_cal C__law_take (hr.mono (by first | decide | omega)) pass0 (pa_cons (pv 0) (pa_cons (pixL K (by rfl) (pe_lst (pa_cons pe_int (pa_cons pe_int (pa_cons (pe_op op_pow pe_int pe_int) (pa_cons (pe_op op_pow pe_int pe_int) pa_nil))))) (pe_cal C__law_take (hr.mono (by first | decide | omega)) pass0 (pa_cons (pv 0) (pa_cons pe_int pa_nil))) (fun _ _ => rfl)) pa_nil))))))))
      (pss_one (ps_ret (pv 3))))))), ?_⟩
    refine r_st (σ' := [some (.ref p), some (.int n), none, none, none]) rfl ?_
    walk_at "rd"
    refine ⟨p, _, rfl, hd, by omega, by omega, fun r H1 r0 r1 u1 d1 => ?_⟩
    walk_at "rd"
    refine ite2 (fun hc => ?_) (fun hc => ?_)
    · walk_at "rd"
      refine r_lrange (m := n) rfl (by omega) fun l hl => ?_
      refine q l _ ((List.range n).map fun (k : Nat) => (k : Int)) (d1.free u1 hl) (u1.trans (same_upto (same_new hl))) (d1.same (same_new hl)) ?_ (by simp) (rise_range n)
      rw [upd_same]
      show _ = some (HO.lst (List.map V.int (List.map _ _)))
      rw [List.map_map]
      rfl
    · walk_at "rd"
      refine ⟨by walk_at "sz", fun a ha => ?_⟩
      walk_at "rd"
      refine ⟨p, _, rfl, d1.upd (d1.ne ha), by omega, by omega, fun r2 H2 r20 r21 u2 d2 => ?_⟩
      have e2 := u2 a _ (d1.ne ha).symm upd_same
      obtain ⟨b, hb, hb0, hb1⟩ : ∃ b : Int, atI [V.int 9, V.int (10 ^ Int.toNat 6), V.int (10 ^ Int.toNat 59)] r2 = some (V.int b) ∧ 0 < b ∧ b < 10 ^ 60 := by
        have : r2 = 0 ∨ r2 = 1 ∨ r2 = 2 := by omega
        rcases this with rfl | rfl | rfl
        · exact ⟨_, rfl, by decide, by decide⟩
        · exact ⟨_, rfl, by decide, by decide⟩
        · exact ⟨_, rfl, by decide, by decide⟩
      refine r_ixL (seq_of e2) hb ?_
      have u02 : Upto p H H2 := u1.trans ((same_upto (same_new ha)).trans u2)
      walk_at "rd"
      refine ⟨p, _, rfl, d2, by omega, by omega, fun r3 H3 r30 r31 u3 d3 => ?_⟩
      walk_at "rd"
      refine ⟨by walk_at "sz", fun c hc => ?_⟩
      walk_at "rd"
      refine ⟨p, _, rfl, d3.upd (d3.ne hc), by omega, by omega, fun r4 H4 r40 r41 u4 d4 => ?_⟩
      have e4 := u4 c _ (d3.ne hc).symm upd_same
      obtain ⟨g, hg, hg0⟩ : ∃ g : Int, atI [V.int 1, V.int (-1)] r4 = some (V.int g) ∧ (g = 1 ∨ g = -1) := by
        have : r4 = 0 ∨ r4 = 1 := by omega
        rcases this with rfl | rfl
        · exact ⟨_, rfl, .inl rfl⟩
        · exact ⟨_, rfl, .inr rfl⟩
      refine r_ixL (seq_of e4) hg ?_
      have u04 : Upto p H H4 := u02.trans (u3.trans ((same_upto (same_new hc)).trans u4))
      walk_at "rd"
      · refine ⟨by walk_at "sz", fun l hl => ?_⟩
        have hlH := d4.free u04 hl
        refine r_seq ?_
        refine r_forR1 ?_
        walk_at "rd"
        refine r_rng1 (m := n) rfl (by omega) (fun i σ H' => ∃ (ns : List Int) (x : Int) (v : Option V), σ = [some (.ref p), some (.int n), some (.int x), some (.ref l), v] ∧ Upto p H H' ∧ Dk H' p ∧ H' l = some (.lst (intL ns)) ∧ ns.length = i ∧ Rise ns ∧ ∀ y ∈ ns, y < x)
          ⟨[], _, none, rfl, u04.trans (same_upto (same_new hl)), d4.upd (d4.ne hl), upd_same, rfl, List.Pairwise.nil, fun y hy => by cases hy⟩ ?_ ?_
        · rintro i σ H' hi ⟨ns, x, v, rfl, u5, d5, h5, hlen, hr5, hx⟩
          walk_at "rd"
          refine ⟨tyV_list (seq_of h5), ?_⟩
          walk_at "rd"
          refine r_append h5 (by rw [List.length_map]; omega) ?_
          have nl : l ≠ p := (hd.ne hlH).symm
          have d6 := d5.upd (o := .lst (intL ns ++ [V.int x])) nl.symm
          have u6 : Upto p H (upd H' l (.lst (intL ns ++ [V.int x]))) := upto_mut u5 hlH
          walk_at "rd"
          refine ⟨by walk_at "sz", fun e he => ?_⟩
          walk_at "rd"
          refine ⟨p, _, rfl, d6.upd (d6.ne he), by omega, by omega, fun r7 H7 r70 r71 u7 d7 => ?_⟩
          have e7 := u7 e _ (d6.ne he).symm upd_same
          obtain ⟨t, ht, ht0, ht1⟩ : ∃ t : Int, atI [V.int 2, V.int 50, V.int (10 ^ Int.toNat 9), V.int (10 ^ Int.toNat 57)] r7 = some (V.int t) ∧ 0 < t ∧ t < 10 ^ 60 := by
            have : r7 = 0 ∨ r7 = 1 ∨ r7 = 2 ∨ r7 = 3 := by omega
            rcases this with rfl | rfl | rfl | rfl
            · exact ⟨_, rfl, by decide, by decide⟩
            · exact ⟨_, rfl, by decide, by decide⟩
            · exact ⟨_, rfl, by decide, by decide⟩
            · exact ⟨_, rfl, by decide, by decide⟩
          refine r_ixL (seq_of e7) ht ?_
          walk_at "rd"
          · refine ⟨p, _, rfl, d7, ht0, by walk_at "nns" <;> omega, fun r8 H8 r80 r81 u8 d8 => ?_⟩
            walk_at "rd"
            have nle : l ≠ e := ne_of_none (upd_same (H := H')) he
            refine ⟨ns ++ [x], _, some (.int i), rfl, u6.trans ((same_upto (same_new he)).trans (u7.trans u8)), d8, ?_, by rw [List.length_append, hlen]; rfl, hr5.snoc hx, fun y hy => ?_⟩
            · have z : (upd (upd H' l (.lst (intL ns ++ [V.int x]))) e (.lst [V.int 2, V.int 50, V.int (10 ^ Int.toNat 9), V.int (10 ^ Int.toNat 57)])) l = some (.lst (intL (ns ++ [x]))) := by
                rw [upd_ne nle, upd_same]
                show _ = some (HO.lst ((ns ++ [x]).map V.int))
                rw [List.map_append]
                rfl
              exact u8 _ _ nl (u7 _ _ nl z)
            · rcases List.mem_append.mp hy with hy | hy
              · have := hx y hy
                omega
              · rw [List.mem_singleton.mp hy]
                omega
          · walk_at "pw"
          · walk_at "pw"
        · rintro σ H' ⟨ns, x, v, rfl, u5, d5, h5, hlen, hr5, hx⟩
          walk_at "rd"
          exact q l H' ns hlH u5 d5 h5 hlen hr5
      · exact wide_mul (a := 300) (b := 10) (by walk_at "nns" <;> omega) (by walk_at "nns" <;> omega) (by omega) (by omega) (by omega)
      all_goals walk_at "pw"

def spRefuse (K : PySem.W.Frag) : Sp := fun vs H Q _ => ∃ (l : Addr) (ns : List Int), vs = [.ref l] ∧ SqL K H l (intL ns) ∧ ns.length ≤ 4000 ∧ ns.Nodup ∧ Q .non H
theorem ok_refuse (T : Top K mg) : Cal P w K mg base CX0 1 "refuse_alike" ["row"] (spRefuse K) := Cal.of T.d_refuse_alike (fun _ _ _ _ _ _ us hl => match us, hl with | [_], _ => rfl) fun f fd F => by
  refine F.ok sc_refuse_alike (fun vs H Q E h => ?_) (fun cdv A outer s H vs Q E hr h => ?_)
  · obtain ⟨l, ns, rfl, _⟩ := h
    rfl
  · obtain ⟨l, ns, rfl, hl, hlen, hnd, q⟩ := h
    refine ⟨_, (pss_one (ps_if (pt_cmpR op_ne (peLenSet K (by rfl) (by rfl) T.b_len (by rfl) T.b_set (pv 0)) (pe_callB (crLen K (by rfl)) (by rfl) T.b_len PySem.boot_len (pa_cons (pv 0) pa_nil)) (nomark _)) (pss_one ps_never) pss_nil)), ?_⟩
    refine r_st (σ' := [some (.ref l)]) rfl ?_
    walk_at "rd"
    refine ⟨l, ns, rfl, hl, hlen, ?_⟩
    rw [distinct_nodup hnd]
    walk_at "rd"
    refine ⟨l, _, rfl, .inl hl, ?_⟩
    rw [List.length_map]
    walk_at "rd"
    rw [decide_eq_true rfl]
    walk_at "rd"
    exact q

def spPut (K : PySem.W.Frag) : Sp := fun vs H Q _ => ∃ (l : Addr) (ns : List Int), vs = [.ref l] ∧ SqL K H l (intL ns) ∧ ns.length ≤ 4000 ∧ ns.Nodup ∧ ∀ r H', H r = none → Same H H' → H' r = some (.lst (intL (ranks ns))) → Q (.ref r) H'
theorem ok_put (T : Top K mg) : Cal P w K mg base CX0 2 "put_to_order" ["row"] (spPut K) := Cal.of T.d_put_to_order (fun _ _ _ _ _ _ us hl => match us, hl with | [_], _ => rfl) fun f fd F => by
  have C_refuse_alike : Cal P w K mg base CX0 1 "refuse_alike" _ _ := ok_refuse T
  refine F.ok sc_put_to_order (fun vs H Q E h => ?_) (fun cdv A outer s H vs Q E hr h => ?_)
  · obtain ⟨l, ns, rfl, _⟩ := h
    rfl
  · obtain ⟨l, ns, rfl, hl, hlen, hnd, q⟩ := h
    refine ⟨_, (pss_cons (ps_expr (pe_cal C_refuse_alike (hr.mono (by first | decide | omega)) pass0 (pa_cons (pv 0) pa_nil)))
      (pss_cons (ps_set (i := 1) sc_put_to_order.nd rfl (by first | exact Or.inl rfl | exact Or.inr rfl) (pe_dc (own := [("rank", 2), ("number", 3)]) (g := (gTup K 2 (gCons (gName 2) (gCons (gName 3) gNil)))) (by rfl) sc_put_to_order.nd (piE K (by rfl) (by rfl) T.b_enumerate (pa_cons (pe_callB (crSrt K (by rfl)) (by rfl) T.b_sorted (by decide +kernel) (pa_cons (pv 0) pa_nil)) pa_nil)) (blkOk_by (own := [("rank", 2), ("number", 3)]) (by kernel_rfl)) (fun _ _ _ _ _ => (pgT K (by rfl) (by rfl) (pgs_cons (pg_name (i := 2) sc_put_to_order.nd rfl (by first | exact Or.inl rfl | exact Or.inr rfl)) (pgs_cons (pg_name (i := 3) sc_put_to_order.nd rfl (by first | exact Or.inl rfl | exact Or.inr rfl)) pgs_nil)))) (fun _ _ _ _ _ => pts_nil) (fun _ _ _ _ _ => (pv 3)) (fun _ _ _ _ _ => (pv 2))))
      (pss_one (ps_ret (pe_lc (own := [("number", 3)]) (g := (gName 3)) (by rfl) sc_put_to_order.nd (piL K (by rfl) (pv 0)) (blkOk_by (own := [("number", 3)]) (by kernel_rfl)) (fun _ _ _ _ _ => (pg_name (i := 3) sc_put_to_order.nd rfl (by first | exact Or.inl rfl | exact Or.inr rfl))) (fun _ _ _ _ _ => pts_nil) (fun _ _ _ _ _ => (pe_dget (hu_of hr) (pv 1) (pv 3) (fun _ _ => rfl)))))))), ?_⟩
    refine r_st (σ' := [some (.ref l), none, none, none]) rfl ?_
    walk_at "rd"
    refine ⟨l, ns, rfl, hl, hlen, hnd, ?_⟩
    walk_at "rd"
    refine r_dcE ?_
    walk_at "rd"
    refine ⟨l, ns, rfl, hl, fun ss b pm srt hb => ?_⟩
    have hss := sorted_strict srt (pm.nodup_iff.mpr hnd)
    have sb : Same H (upd H b (.lst (intL ss))) := same_new hb
    refine ⟨b, intL ss, rfl, seq_of upd_same, fun D hD => ?_⟩
    have nbD : b ≠ D := ne_of_none (upd_same (H := H)) hD
    refine dc_enum (xs := intL ss) (fun i H' => Same (upd H b (.lst (intL ss))) H' ∧ H' D = some (.dK (rkv (ss.take i) 0)))
      ⟨same_new hD, upd_same⟩ (fun i H' _ s4 => seq_of (s4.1 _ _ upd_same)) ?_ ?_
    · rintro i x H' U hi ⟨s4, e4⟩ nU
      obtain ⟨z, hz, rfl⟩ : ∃ z, ss[i]? = some z ∧ x = V.int z := by
        rw [List.getElem?_map] at hi
        cases e : ss[i]? with
        | none =>
          rw [e] at hi
          cases hi
        | some z =>
          rw [e] at hi
          exact ⟨z, rfl, (Option.some.inj hi).symm⟩
      refine r_gTup2 (tup_of upd_same) ?_
      refine ⟨rfl, ?_⟩
      walk_at "rd"
      have hi2 := lt_of_at hz
      have nDU : D ≠ U := ne_of_none e4 nU
      refine ⟨_, .inl z, rfl, by rw [upd_ne nDU]; exact e4, r_smalll ?_, ?_, ?_⟩
      · rw [rkv_length, List.length_take]
        have := pm.length_eq
        omega
      · exact same_mut (s4.trans (same_new nU)) hD
      · rw [upd_same, rkv_step (pm.nodup_iff.mpr hnd) hz]
    · rintro H' ⟨s4, e4⟩
      rw [show (intL ss).length = ss.length from List.length_map _, List.take_length] at e4
      have s5 : Same H H' := sb.trans s4
      walk_at "rd"
      refine r_lcL ?_
      walk_at "rd"
      refine r_lcL1 (s5.seq hl) fun M hM => ?_
      have nDM : D ≠ M := ne_of_none e4 hM
      refine lc_list (xs := intL ns) (fun i H2 => Same H' H2 ∧ H2 M = some (.lst (intL ((ns.take i).map fun x => (below ns x : Int)))))
        ⟨same_new hM, upd_same⟩ (fun i H2 _ s6 => s6.1.seq (s5.seq hl)) ?_ ?_
      · rintro i x H2 hi ⟨s6, e6⟩
        obtain ⟨z, hz, rfl⟩ : ∃ z, ns[i]? = some z ∧ x = V.int z := by
          rw [List.getElem?_map] at hi
          cases e : ns[i]? with
          | none =>
            rw [e] at hi
            cases hi
          | some z =>
            rw [e] at hi
            exact ⟨z, rfl, (Option.some.inj hi).symm⟩
        walk_at "rd"
        refine ⟨rfl, ?_⟩
        walk_at "rd"
        have hi2 := lt_of_at hz
        refine ⟨D, .int (below ns z : Nat), rfl, .inl ⟨_, .inl z, .inl (s6 _ _ e4), rfl, ?_⟩, _, e6, r_smalll (by rw [List.length_map, List.length_map, List.length_take]; omega), same_mut s6 hM, ?_⟩
        · obtain ⟨j, hj⟩ := List.mem_iff_getElem?.mp (pm.mem_iff.mpr (List.mem_of_getElem? hz))
          rw [rkv_at ss z 0 j (pm.nodup_iff.mpr hnd) hj, Nat.zero_add, ← sorted_below hss hj, below_perm pm]
        · rw [upd_same, List.take_add_one, hz, List.map_append]
          show _ = some (HO.lst (List.map V.int (_ ++ _)))
          rw [List.map_append]
          rfl
      · rintro H2 ⟨s6, e6⟩
        rw [show (intL ns).length = ns.length from List.length_map _, List.take_length] at e6
        exact q M H2 (s5.free hM) (s5.trans s6) e6

def spTurned (K : PySem.W.Frag) : Sp := fun vs H Q _ => ∃ (l : Addr) (ns : List Int), vs = [.ref l] ∧ SqL K H l (intL ns) ∧ ns.length ≤ 4000 ∧ ns.Nodup ∧ ∀ r H', H r = none → Same H H' → H' r = some (.lst (intL ns.reverse)) → Q (.ref r) H'
theorem ok_turned (T : Top K mg) : Cal P w K mg base CX0 2 "turned_about" ["row"] (spTurned K) := Cal.of T.d_turned_about (fun _ _ _ _ _ _ us hl => match us, hl with | [_], _ => rfl) fun f fd F => by
  have C_refuse_alike : Cal P w K mg base CX0 1 "refuse_alike" _ _ := ok_refuse T
  refine F.ok sc_turned_about (fun vs H Q E h => ?_) (fun cdv A outer s H vs Q E hr h => ?_)
  · obtain ⟨l, ns, rfl, _⟩ := h
    rfl
  · obtain ⟨l, ns, rfl, hl, hlen, hnd, q⟩ := h
    refine ⟨_, (pss_cons (ps_expr (pe_cal C_refuse_alike (hr.mono (by first | decide | omega)) pass0 (pa_cons (pv 0) pa_nil)))
      (pss_one (ps_ret (peLRev K (by rfl) (by rfl) T.b_list (by rfl) T.b_reversed (pv 0))))), ?_⟩
    refine r_st (σ' := [some (.ref l)]) rfl ?_
    walk_at "rd"
    refine ⟨l, ns, rfl, hl, hlen, hnd, ?_⟩
    walk_at "rd"
    refine ⟨l, _, rfl, hl, fun r hr => q r _ hr (same_new hr) ?_⟩
    rw [upd_same, rev_ints]

def spUndone (K : PySem.W.Frag) : Sp := fun vs H Q _ => ∃ (l : Addr) (os : List Nat), vs = [.ref l] ∧ SqL K H l (ntL os) ∧ os.length ≤ 4000 ∧ os.Perm (List.range os.length) ∧ ∀ r H', H r = none → Same H H' → H' r = some (.lst (ntL (undo os))) → Q (.ref r) H'
theorem ok_undone (T : Top K mg) : Cal P w K mg base CX0 2 "undone_row" ["row"] (spUndone K) := Cal.of T.d_undone_row (fun _ _ _ _ _ _ us hl => match us, hl with | [_], _ => rfl) fun f fd F => by
  refine F.ok sc_undone_row (fun vs H Q E h => ?_) (fun cdv A outer s H vs Q E hr h => ?_)
  · obtain ⟨l, os, rfl, _⟩ := h
    rfl
  · obtain ⟨l, os, rfl, hl, hlen, pm, q⟩ := h
    refine ⟨_, (pss_cons (ps_if (pt_cmpR (opNeD K (by rfl) (hu64 hr)) (pe_callB (crSrt K (by rfl)) (by rfl) T.b_sorted (by decide +kernel) (pa_cons (pv 0) pa_nil)) (pe_listRg (by rfl) (by rfl) T.b_list (prg_1 (by rfl) T.b_range (pe_callB (crLen K (by rfl)) (by rfl) T.b_len PySem.boot_len (pa_cons (pv 0) pa_nil)))) (nomark _)) (pss_one ps_never) pss_nil)
      (pss_cons (ps_set (i := 1) sc_undone_row.nd rfl (by first | exact Or.inl rfl | exact Or.inr rfl) (pe_dc (own := [("place", 2), ("number", 3)]) (g := (gTup K 2 (gCons (gName 2) (gCons (gName 3) gNil)))) (by rfl) sc_undone_row.nd (piE K (by rfl) (by rfl) T.b_enumerate (pa_cons (pv 0) pa_nil)) (blkOk_by (own := [("place", 2), ("number", 3)]) (by kernel_rfl)) (fun _ _ _ _ _ => (pgT K (by rfl) (by rfl) (pgs_cons (pg_name (i := 2) sc_undone_row.nd rfl (by first | exact Or.inl rfl | exact Or.inr rfl)) (pgs_cons (pg_name (i := 3) sc_undone_row.nd rfl (by first | exact Or.inl rfl | exact Or.inr rfl)) pgs_nil)))) (fun _ _ _ _ _ => pts_nil) (fun _ _ _ _ _ => (pv 3)) (fun _ _ _ _ _ => (pv 2))))
      (pss_one (ps_ret (pe_lc (own := [("number", 3)]) (g := (gName 3)) (by rfl) sc_undone_row.nd (pi_range1 (by rfl) T.b_range (pa_cons (pe_callB (crLen K (by rfl)) (by rfl) T.b_len PySem.boot_len (pa_cons (pv 0) pa_nil)) pa_nil)) (blkOk_by (own := [("number", 3)]) (by kernel_rfl)) (fun _ _ _ _ _ => (pg_name (i := 3) sc_undone_row.nd rfl (by first | exact Or.inl rfl | exact Or.inr rfl))) (fun _ _ _ _ _ => pts_nil) (fun _ _ _ _ _ => (pe_dget (hu_of hr) (pv 1) (pv 3) (fun _ _ => rfl)))))))), ?_⟩
    refine r_st (σ' := [some (.ref l), none, none, none]) rfl ?_
    have nd : (os.map fun (k : Nat) => (k : Int)).Nodup := by
      unfold List.Nodup
      rw [List.pairwise_map]
      exact (order_nodup pm).imp fun h e => h (by omega)
    have hl2 := hl
    rw [ntL_int] at hl2
    walk_at "rd"
    refine ⟨l, _, rfl, hl2, fun ss b pms srt hb => ?_⟩
    have hss := sorted_order pm pms srt
    subst hss
    walk_at "rd"
    have s1 := same_new (o := .lst (intL ((List.range os.length).map fun (k : Nat) => (k : Int)))) hb
    refine r_len (.inl (s1.seq hl)) ?_
    rw [ntL_length]
    walk_at "rd"
    refine ⟨RgOk.of_le (by omega) (by omega) (by omega) (by omega), fun c hc => ?_⟩
    rw [rgV_nat]
    have s2 := s1.trans (same_new (o := .lst ((List.range os.length).map fun (k : Nat) => V.int (k : Int))) hc)
    refine r_neInts (ns := (List.range os.length).map fun (k : Nat) => (k : Int)) (seq_of (by rw [upd_ne (ne_of_none upd_same hc)]; exact upd_same)) (seq_of (by rw [upd_same, ← ntL_range, ntL_int])) ?_
    walk_at "rd"
    refine r_dcE ?_
    walk_at "rd"
    refine ⟨l, ntL os, rfl, s2.seq hl, fun D hD => ?_⟩
    refine dc_enum (xs := ntL os) (fun i H' => Same H H' ∧ H' D = some (.dK (rkv ((os.map fun (k : Nat) => (k : Int)).take i) 0)))
      ⟨s2.trans (same_new hD), upd_same⟩ (fun i H' _ s4 => s4.1.seq hl) ?_ ?_
    · rintro i x H' U hi ⟨s4, e4⟩ nU
      obtain ⟨z, hz, rfl⟩ := ntL_at hi
      refine r_gTup2 (tup_of upd_same) ?_
      refine ⟨rfl, ?_⟩
      walk_at "rd"
      have hi2 := lt_of_at hz
      have nDU : D ≠ U := ne_of_none e4 nU
      refine ⟨_, .inl (z : Int), rfl, by rw [upd_ne nDU]; exact e4, r_smalll ?_, ?_, ?_⟩
      · rw [rkv_length, List.length_take, List.length_map]
        omega
      · exact same_mut (s4.trans (same_new nU)) (s2.free hD)
      · rw [upd_same, rkv_step nd (by rw [List.getElem?_map, hz]; rfl)]
    · rintro H' ⟨s4, e4⟩
      rw [ntL_length, List.take_of_length_le (by rw [List.length_map]; exact Nat.le_refl _)] at e4
      walk_at "rd"
      refine r_lcR ?_
      walk_at "rd"
      refine r_len (.inl (s4.seq hl)) ?_
      rw [ntL_length]
      walk_at "rd"
      refine r_lcR1 (m := os.length) rfl (by omega) fun M hM => ?_
      refine lc_range (lo := 0) (n := os.length) (fun i H2 => Same H' H2 ∧ H2 M = some (.lst (ntL ((List.range i).map fun k => os.idxOf k))))
        ⟨same_new hM, upd_same⟩ ?_ ?_
      · rintro i H2 hi ⟨s6, e6⟩
        rw [Int.zero_add]
        walk_at "rd"
        refine ⟨rfl, ?_⟩
        walk_at "rd"
        refine ⟨D, .int (os.idxOf i : Nat), rfl, .inl ⟨_, .inl (i : Int), .inl (s6 _ _ e4), rfl, ?_⟩, _, e6, r_smalll (by rw [ntL_length, List.length_map, List.length_range]; omega), same_mut s6 hM, ?_⟩
        · rw [rkv_at _ (i : Int) 0 (os.idxOf i) nd (by rw [List.getElem?_map, get_idxOf (order_mem pm hi)]; rfl), Nat.zero_add]
        · rw [upd_same, List.range_succ, List.map_append]
          show _ = some (HO.lst (ntL (_ ++ [_])))
          rw [ntL_snoc]
      · rintro H2 ⟨s6, e6⟩
        exact q M H2 (s4.free hM) (s4.trans s6) e6

theorem at_rev {α : Type} {xs : List α} {i : Nat} (h : i < xs.length) : xs[xs.length - 1 - i]? = xs.reverse[i]? := (List.getElem?_reverse h).symm
theorem map_range_get {α : Type} {xs : List α} (f : Nat → α) (h : ∀ i, i < xs.length → xs[i]? = some (f i)) : (List.range xs.length).map f = xs := by
  apply List.ext_getElem?
  intro i
  by_cases hi : i < xs.length
  · rw [h i hi, List.getElem?_map, List.getElem?_range hi]
    rfl
  · rw [List.getElem?_eq_none (l := (List.range xs.length).map f) (by rw [List.length_map, List.length_range]; omega), List.getElem?_eq_none (by omega)]

def pick (ns : List Int) (os : List Nat) : List Int := os.map fun k => ns.getD k 0
theorem pick_length (ns : List Int) (os : List Nat) : (pick ns os).length = os.length := List.length_map _
theorem getD_of {ns : List Int} {k : Nat} (h : k < ns.length) : ns[k]? = some (ns.getD k 0) := by
  rw [List.getD_eq_getElem?_getD, List.getElem?_eq_getElem h]
  rfl
theorem pick_perm {ns : List Int} {os : List Nat} (pm : os.Perm (List.range ns.length)) : (pick ns os).Perm ns := by
  unfold pick
  refine (pm.map fun k => ns.getD k 0).trans ?_
  have e : (List.range ns.length).map (fun k => ns.getD k 0) = ns := map_range_get _ fun i hi => getD_of hi
  rw [e]
theorem below_pick {ns : List Int} {os : List Nat} (hr : Rise ns) (pm : os.Perm (List.range ns.length)) {k : Nat} (hk : k < ns.length) : below (pick ns os) (ns.getD k 0) = k := by
  rw [← below_perm (pick_perm pm).symm]
  exact sorted_below hr (getD_of hk)
theorem ranks_pick {ns : List Int} {os : List Nat} (hr : Rise ns) (pm : os.Perm (List.range ns.length)) : ranksN (pick ns os) = os := by
  unfold ranksN
  unfold pick
  rw [List.map_map]
  refine (List.map_congr_left fun k hk => ?_).trans (List.map_id _)
  exact below_pick hr pm (List.mem_range.mp (pm.mem_iff.mp hk))
theorem pick_range {os : List Nat} {n : Nat} (pm : os.Perm (List.range n)) : pick ((List.range n).map fun (k : Nat) => (k : Int)) os = os.map fun (k : Nat) => (k : Int) := by
  unfold pick
  refine List.map_congr_left fun k hk => ?_
  have h := List.mem_range.mp (pm.mem_iff.mp hk)
  rw [List.getD_eq_getElem?_getD, List.getElem?_map, List.getElem?_range h]
  rfl
theorem pick_nodup {ns : List Int} {os : List Nat} (hr : Rise ns) (pm : os.Perm (List.range ns.length)) : (pick ns os).Nodup := (pick_perm pm).nodup_iff.mpr hr.nodup
theorem ranks_self {os : List Nat} (pm : os.Perm (List.range os.length)) : ranksN (os.map fun (k : Nat) => (k : Int)) = os := by
  have h := ranks_pick (ns := (List.range os.length).map fun (k : Nat) => (k : Int)) (rise_range _) (os := os) (by rw [List.length_map, List.length_range]; exact pm)
  rw [pick_range pm] at h
  exact h
theorem ints_nodup {os : List Nat} (pm : os.Perm (List.range os.length)) : (os.map fun (k : Nat) => (k : Int)).Nodup := by
  unfold List.Nodup
  rw [List.pairwise_map]
  exact (order_nodup pm).imp fun h e => h (by omega)
theorem rev_perm {os : List Nat} (pm : os.Perm (List.range os.length)) : os.reverse.Perm (List.range os.reverse.length) := by
  rw [List.length_reverse]
  exact (List.reverse_perm os).trans pm
theorem undo_undo {os : List Nat} (pm : os.Perm (List.range os.length)) : undo (undo os) = os := by
  have h : (List.range os.length).map (fun k => (undo os).idxOf k) = os := map_range_get _ fun i hi => by
    have hk := List.getElem?_eq_getElem hi
    have h2 : (undo os)[os[i]]? = some i := by
      rw [undo_get (order_lt pm (List.getElem_mem hi)), idxOf_of (order_nodup pm) hk]
    rw [idxOf_of (order_nodup (undo_perm pm)) h2]
    exact hk
  unfold undo at h ⊢
  rw [List.length_map, List.length_range]
  exact h
theorem undo_rev {os : List Nat} (pm : os.Perm (List.range os.length)) : undo os.reverse = (undo os).map fun k => os.length - 1 - k := by
  unfold undo
  rw [List.length_reverse, List.map_map]
  refine List.map_congr_left fun k hk => ?_
  have hm := order_mem pm (List.mem_range.mp hk)
  have h1 := get_idxOf hm
  have h2 := lt_of_at h1
  refine idxOf_of (order_nodup (rev_perm pm)) ?_
  show os.reverse[os.length - 1 - os.idxOf k]? = some k
  rw [List.getElem?_reverse (by omega), show os.length - 1 - (os.length - 1 - os.idxOf k) = os.idxOf k by omega]
  exact h1
theorem rise_iff {ns : List Int} (hr : Rise ns) {i j : Nat} (hi : i < ns.length) (hj : j < ns.length) : ns.getD i 0 < ns.getD j 0 ↔ i < j := by
  have key : ∀ a b : Nat, a < b → b < ns.length → ns.getD a 0 < ns.getD b 0 := fun a b h hb => by
    have h1 := List.pairwise_iff_getElem.mp hr a b (by omega) hb h
    rw [List.getD_eq_getElem?_getD, List.getD_eq_getElem?_getD, List.getElem?_eq_getElem (show a < ns.length by omega), List.getElem?_eq_getElem hb]
    exact h1
  rcases Nat.lt_trichotomy i j with h | h | h
  · exact ⟨fun _ => h, fun _ => key i j h hj⟩
  · subst h
    exact ⟨fun h => by omega, fun h => by omega⟩
  · have := key j i h hi
    exact ⟨fun h => by omega, fun h => by omega⟩
def spRight (K : PySem.W.Frag) : Sp := fun vs H Q _ => ∃ (l r : Addr) (ones oths : List Int) (os : List Nat), vs = [.ref l, .ref r] ∧ SqL K H l (intL (pick ones os)) ∧ SqL K H r (intL (pick oths os)) ∧ Rise ones ∧ Rise oths ∧ ones.length = os.length ∧ oths.length = os.length ∧
  os.Perm (List.range os.length) ∧ os.length ≤ 100 ∧ ∀ H', Same H H' → Q (.bl true) H'
theorem ok_right (T : Top K mg) : Cal P w K mg base CX0 3 "_law_right" ["row", "other"] (spRight K) := Cal.of T.d__law_right (fun _ _ _ _ _ _ us hl => match us, hl with | [_, _], _ => rfl) fun f fd F => by
  have C_put_to_order : Cal P w K mg base CX0 2 "put_to_order" _ _ := ok_put T
  have C_turned_about : Cal P w K mg base CX0 2 "turned_about" _ _ := ok_turned T
  have C_undone_row : Cal P w K mg base CX0 2 "undone_row" _ _ := ok_undone T
  refine F.ok sc__law_right (fun vs H Q E h => ?_) (fun cdv A outer s H vs Q E hr h => ?_)
  · obtain ⟨l, r, _, _, _, rfl, _⟩ := h
    rfl
  · obtain ⟨l, r, ones, oths, os, rfl, hl, hrr, r1, r2, n1, n2, pm, hn, q⟩ := h
    refine ⟨_, (pss_cons (ps_set (i := 2) sc__law_right.nd rfl (by first | exact Or.inl rfl | exact Or.inr rfl) (pe_cal C_put_to_order (hr.mono (by first | decide | omega)) pass0 (pa_cons (pv 0) pa_nil)))
      (pss_cons (ps_set (i := 3) sc__law_right.nd rfl (by first | exact Or.inl rfl | exact Or.inr rfl) (pe_callB (crLen K (by rfl)) (by rfl) T.b_len PySem.boot_len (pa_cons (pv 0) pa_nil)))
      (pss_cons (ps_if (PW.pt (pw_or (pt_cmpR (opNeD K (by rfl) (hu64 hr)) (pe_cal C_put_to_order (hr.mono (by first | decide | omega)) pass0 (pa_cons (pv 2) pa_nil)) (pv 2) (nomark _)) (pw_or (pt_cmpR (opNeD K (by rfl) (hu64 hr)) (pe_callB (crSrt K (by rfl)) (by rfl) T.b_sorted (by decide +kernel) (pa_cons (pv 2) pa_nil)) (pe_listRg (by rfl) (by rfl) T.b_list (prg_1 (by rfl) T.b_range (pv 3))) (nomark _)) (pw_or1 (pt_cmpR (opNeD K (by rfl) (hu64 hr)) (pe_cal C_put_to_order (hr.mono (by first | decide | omega)) pass0 (pa_cons (pv 1) pa_nil)) (pv 2) (nomark _)))))) (pss_one (ps_ret pe_bl)) pss_nil)
      (pss_cons (ps_for PassesOwn.never rfl (pi_range1 (by rfl) T.b_range (pa_cons (pv 3) pa_nil)) (pg_name (i := 4) sc__law_right.nd rfl (by first | exact Or.inl rfl | exact Or.inr rfl)) (pss_one (ps_for PassesOwn.never rfl (pi_range1 (by rfl) T.b_range (pa_cons (pv 3) pa_nil)) (pg_name (i := 5) sc__law_right.nd rfl (by first | exact Or.inl rfl | exact Or.inr rfl)) (pss_one (ps_if (pt_cmpR op_ne (pe_cmpR op_lt (pixL K (by rfl) (pv 2) (pv 4) (fun _ _ => rfl)) (pixL K (by rfl) (pv 2) (pv 5) (fun _ _ => rfl)) (nomark _)) (pe_cmpR op_lt (pixL K (by rfl) (pv 0) (pv 4) (fun _ _ => rfl)) (pixL K (by rfl) (pv 0) (pv 5) (fun _ _ => rfl)) (nomark _)) (nomark _)) (pss_one (ps_ret pe_bl)) pss_nil)))))
      (pss_cons (ps_if (PW.pt (pw_or (pt_cmpR (opNeD K (by rfl) (hu64 hr)) (pe_cal C_turned_about (hr.mono (by first | decide | omega)) pass0 (pa_cons (pe_cal C_turned_about (hr.mono (by first | decide | omega)) pass0 (pa_cons (pv 0) pa_nil)) pa_nil)) (pv 0) (nomark _)) (pw_or1 (pt_cmpR (opNeD K (by rfl) (hu64 hr)) (pe_cal C_put_to_order (hr.mono (by first | decide | omega)) pass0 (pa_cons (pe_cal C_turned_about (hr.mono (by first | decide | omega)) pass0 (pa_cons (pv 0) pa_nil)) pa_nil)) (pe_cal C_turned_about (hr.mono (by first | decide | omega)) pass0 (pa_cons (pv 2) pa_nil)) (nomark _))))) (pss_one (ps_ret pe_bl)) pss_nil)
      (pss_cons (ps_set (i := 6) sc__law_right.nd rfl (by first | exact Or.inl rfl | exact Or.inr rfl) (pe_cal C_undone_row (hr.mono (by first | decide | omega)) pass0 (pa_cons (pv 2) pa_nil)))
      (pss_cons (ps_if (PW.pt (pw_or (pt_cmpR (opNeD K (by rfl) (hu64 hr)) (pe_cal C_undone_row (hr.mono (by first | decide | omega)) pass0 (pa_cons (pv 6) pa_nil)) (pv 2) (nomark _)) (pw_or1 (pt_cmpR (opNeD K (by rfl) (hu64 hr)) (pe_lc (own := [("place", 7)]) (g := (gName 7)) (by rfl) sc__law_right.nd (piL K (by rfl) (pv 6)) (blkOk_by (own := [("place", 7)]) (by kernel_rfl)) (fun _ _ _ _ _ => (pg_name (i := 7) sc__law_right.nd rfl (by first | exact Or.inl rfl | exact Or.inr rfl))) (fun _ _ _ _ _ => pts_nil) (fun _ _ _ _ _ => (pixL K (by rfl) (pv 2) (pv 7) (fun _ _ => rfl)))) (pe_listRg (by rfl) (by rfl) T.b_list (prg_1 (by rfl) T.b_range (pv 3))) (nomark _))))) (pss_one (ps_ret pe_bl)) pss_nil)
      (pss_one (ps_ret (pe_cmpR (opEqD K (by rfl) (hu64 hr)) (pe_cal C_undone_row (hr.mono (by first | decide | omega)) pass0 (pa_cons (pe_cal C_turned_about (hr.mono (by first | decide | omega)) pass0 (pa_cons (pv 2) pa_nil)) pa_nil)) (pe_lc (own := [("place", 7)]) (g := (gName 7)) (by rfl) sc__law_right.nd (piL K (by rfl) (pv 6)) (blkOk_by (own := [("place", 7)]) (by kernel_rfl)) (fun _ _ _ _ _ => (pg_name (i := 7) sc__law_right.nd rfl (by first | exact Or.inl rfl | exact Or.inr rfl))) (fun _ _ _ _ _ => pts_nil) (fun _ _ _ _ _ => (pe_op op_sub (pe_op op_sub (pv 3) pe_int) (pv 7)))) (nomark _))))))))))), ?_⟩
    refine r_st (σ' := [some (.ref l), some (.ref r), none, none, none, none, none, none]) rfl ?_
    have pm1 : os.Perm (List.range ones.length) := by rw [n1]; exact pm
    have pm2 : os.Perm (List.range oths.length) := by rw [n2]; exact pm
    have lr : (pick ones os).length = os.length := pick_length _ _
    walk_at "rd"
    refine ⟨l, _, rfl, hl, by omega, pick_nodup r1 pm1, fun o H1 ho s1 e1 => ?_⟩
    rw [ranks_nat, ranks_pick r1 pm1] at e1
    walk_at "rd"
    refine r_len (.inl (s1.seq hl)) ?_
    rw [List.length_map, lr]
    have f1 := e1
    rw [ntL_int] at f1
    walk_at "rd"
    refine ⟨o, _, rfl, seq_of f1, by rw [List.length_map]; omega, ints_nodup pm, fun a2 H2 ha2 s2 e2 => ?_⟩
    rw [ranks_nat, ranks_self pm, ntL_int] at e2
    walk_at "rd"
    refine r_neInts (seq_of e2) (seq_of (s2 _ _ f1)) ?_
    walk_at "rd"
    refine ⟨o, _, rfl, seq_of (s2 _ _ f1), fun ss a3 pms srt ha3 => ?_⟩
    have hss := sorted_order pm pms srt
    subst hss
    walk_at "rd"
    refine ⟨RgOk.of_le (by omega) (by omega) (by omega) (by omega), fun a4 ha4 => ?_⟩
    rw [rgV_nat]
    refine r_neInts (ns := (List.range os.length).map fun (k : Nat) => (k : Int)) (seq_of (by rw [upd_ne (ne_of_none upd_same ha4)]; exact upd_same)) (seq_of (by rw [upd_same, ← ntL_range, ntL_int])) ?_
    have s4 := s2.trans ((same_new (o := .lst (intL ((List.range os.length).map fun (k : Nat) => (k : Int)))) ha3).trans (same_new (o := .lst ((List.range os.length).map fun (k : Nat) => V.int (k : Int))) ha4))
    generalize upd (upd H2 a3 (.lst (intL ((List.range os.length).map fun (k : Nat) => (k : Int))))) a4 (.lst ((List.range os.length).map fun (k : Nat) => V.int (k : Int))) = H4 at s4 ⊢
    walk_at "rd"
    refine ⟨r, _, rfl, (s1.trans s4).seq hrr, by rw [pick_length]; omega, pick_nodup r2 pm2, fun a5 H5 ha5 s5 e5 => ?_⟩
    rw [ranks_nat, ranks_pick r2 pm2, ntL_int] at e5
    have s15 := s4.trans s5
    walk_at "rd"
    refine r_neInts (seq_of e5) (seq_of (s15 _ _ f1)) ?_
    walk_at "rd"
    refine r_forR1 ?_
    walk_at "rd"
    have gO : H5 o = some (.lst (ntL os)) := s15 _ _ e1
    have gL := (s1.trans s15).seq hl
    refine r_rng1 (m := os.length) rfl (by omega) (fun i σ H' => (∃ v4 v5 : Option V, σ = [some (.ref l), some (.ref r), some (.ref o), some (.int (os.length : Nat)), v4, v5, none, none]) ∧ Same H5 H') ⟨⟨_, _, rfl⟩, Same.refl _⟩ ?_ ?_
    · rintro i σ H6 hi ⟨⟨v4, v5, rfl⟩, s6⟩
      refine r_forR1 ?_
      walk_at "rd"
      refine r_rng1 (m := os.length) rfl (by omega) (fun j σ H' => (∃ v5 : Option V, σ = [some (.ref l), some (.ref r), some (.ref o), some (.int (os.length : Nat)), some (.int (i : Nat)), v5, none, none]) ∧ Same H5 H') ⟨⟨_, rfl⟩, s6⟩ ?_ ?_
      · rintro j σ H7 hj ⟨⟨v5, rfl⟩, s7⟩
        obtain ⟨x, hx⟩ : ∃ x, os[i]? = some x := ⟨_, List.getElem?_eq_getElem hi⟩
        obtain ⟨y, hy⟩ : ∃ y, os[j]? = some y := ⟨_, List.getElem?_eq_getElem hj⟩
        have hpx : (intL (pick ones os))[i]? = some (.int (ones.getD x 0)) := by
          unfold pick
          rw [List.getElem?_map, List.getElem?_map, hx]
          rfl
        have hpy : (intL (pick ones os))[j]? = some (.int (ones.getD y 0)) := by
          unfold pick
          rw [List.getElem?_map, List.getElem?_map, hy]
          rfl
        have hx2 := order_lt pm (List.mem_of_getElem? hx)
        have hy2 := order_lt pm (List.mem_of_getElem? hy)
        walk_at "rd"
        refine r_ixL (seq_of (s7 _ _ gO)) (atI_nat (ntL_get hx)) ?_
        walk_at "rd"
        refine r_ixL (seq_of (s7 _ _ gO)) (atI_nat (ntL_get hy)) ?_
        walk_at "rd"
        refine r_ixL (s7.seq gL) (atI_nat hpx) ?_
        walk_at "rd"
        refine r_ixL (s7.seq gL) (atI_nat hpy) ?_
        walk_at "rd"
        have e : decide ((x : Int) < (y : Int)) = decide (ones.getD x 0 < ones.getD y 0) := by
          rw [decide_eq_decide, rise_iff r1 (by omega) (by omega)]
          omega
        rw [e]
        walk_at "bn"
        walk_at "rd"
        exact ⟨⟨_, rfl⟩, s7⟩
      · rintro σ H7 ⟨⟨v5, rfl⟩, s7⟩
        exact ⟨⟨_, _, rfl⟩, s7⟩
    · rintro σ H6 ⟨⟨v4, v5, rfl⟩, s6⟩
      have gO := s6 _ _ gO
      have gL := s6.seq gL
      have fO := gO
      rw [ntL_int] at fO
      walk_at "rd"
      refine ⟨l, _, rfl, gL, by omega, pick_nodup r1 pm1, fun a7 H7 ha7 s7 e7 => ?_⟩
      walk_at "rd"
      refine ⟨a7, _, rfl, seq_of e7, by rw [List.length_reverse]; omega, ((List.reverse_perm _).nodup_iff.mpr (pick_nodup r1 pm1)), fun a8 H8 ha8 s8 e8 => ?_⟩
      rw [List.reverse_reverse] at e8
      walk_at "rd"
      refine r_neInts (seq_of e8) ((s7.trans s8).seq gL) ?_
      walk_at "rd"
      have s68 := s7.trans s8
      refine ⟨l, _, rfl, s68.seq gL, by omega, pick_nodup r1 pm1, fun a9 H9 ha9 s9 e9 => ?_⟩
      have e9' : H9 a9 = some (.lst (intL (pick ones os.reverse))) := by
        rw [e9]
        unfold pick
        rw [List.map_reverse]
      have pmr := rev_perm pm
      have pmr1 : os.reverse.Perm (List.range ones.length) := by
        rw [List.length_reverse] at pmr
        rw [n1]
        exact pmr
      walk_at "rd"
      refine ⟨a9, _, rfl, seq_of e9', by rw [pick_length, List.length_reverse]; omega, pick_nodup r1 pmr1, fun b1 H10 hb1 s10 e10 => ?_⟩
      rw [ranks_nat, ranks_pick r1 pmr1, ntL_int] at e10
      have s610 := s68.trans (s9.trans s10)
      walk_at "rd"
      refine ⟨o, _, rfl, seq_of (s610 _ _ fO), by rw [List.length_map]; omega, ints_nodup pm, fun b2 H11 hb2 s11 e11 => ?_⟩
      rw [← List.map_reverse] at e11
      walk_at "rd"
      refine r_neInts (seq_of (s11 _ _ e10)) (seq_of e11) ?_
      walk_at "rd"
      have s611 := s610.trans s11
      refine ⟨o, os, rfl, seq_of (s611 _ _ gO), by omega, pm, fun u H12 hu s12 e12 => ?_⟩
      walk_at "rd"
      have pmu := undo_perm pm
      have ul := undo_length os
      refine ⟨u, _, rfl, seq_of e12, by omega, pmu, fun b3 H13 hb3 s13 e13 => ?_⟩
      rw [undo_undo pm, ntL_int] at e13
      have s613 := s611.trans (s12.trans s13)
      walk_at "rd"
      refine r_neInts (seq_of e13) (seq_of (s613 _ _ fO)) ?_
      walk_at "rd"
      have eu := s13 _ _ e12
      refine r_lcL ?_
      walk_at "rd"
      refine r_lcL1 (seq_of eu) ?_
      refine lcL_map (fun v => match v with | .int y => V.int ((os.getD y.toNat 0 : Nat) : Int) | v => v) (seq_of eu) (by rw [ntL_length]; omega) (fun _ => rfl)
        (fun m x H' R hm s14 hR => ?_) fun D H14 hD s14 e14 => ?_
      · obtain ⟨y, hy, rfl⟩ := ntL_at hm
        have hy2 := order_lt pmu (List.mem_of_getElem? hy)
        walk_at "rd"
        refine r_ixL (seq_of (s14 _ _ (s613 _ _ gO))) (atI_nat (ntL_get (k := os.getD y 0) ?_)) (hR _ (Same.refl _))
        rw [List.getD_eq_getElem?_getD, List.getElem?_eq_getElem (show y < os.length by omega)]
        rfl
      have e14 : H14 D = some (.lst (intL ((List.range os.length).map fun (k : Nat) => (k : Int)))) := by
        rw [e14, ← ntL_int]
        unfold ntL undo
        rw [List.map_map, List.map_map]
        congr 2
        refine List.map_congr_left fun k hk => ?_
        have h1 := get_idxOf (order_mem pm (List.mem_range.mp hk))
        show V.int ((os.getD ((os.idxOf k : Int)).toNat 0 : Nat) : Int) = V.int (k : Int)
        rw [Int.toNat_natCast, List.getD_eq_getElem?_getD, h1]
        rfl
      walk_at "rd"
      refine ⟨RgOk.of_le (by omega) (by omega) (by omega) (by omega), fun b4 hb4 => ?_⟩
      rw [rgV_nat]
      refine r_neInts (ns := (List.range os.length).map fun (k : Nat) => (k : Int)) (seq_of ((same_new hb4) _ _ e14)) (seq_of (by rw [upd_same, ← ntL_range, ntL_int])) ?_
      walk_at "rd"
      have s615 := s613.trans (s14.trans (same_new (o := .lst ((List.range os.length).map fun (k : Nat) => V.int (k : Int))) hb4))
      have eu := (s14.trans (same_new (o := .lst ((List.range os.length).map fun (k : Nat) => V.int (k : Int))) hb4)) _ _ eu
      generalize upd H14 b4 (.lst ((List.range os.length).map fun (k : Nat) => V.int (k : Int))) = H15 at s615 eu ⊢
      refine ⟨o, _, rfl, seq_of (s615 _ _ fO), by rw [List.length_map]; omega, ints_nodup pm, fun b5 H16 hb5 s16 e16 => ?_⟩
      rw [← List.map_reverse, ← ntL_int] at e16
      walk_at "rd"
      refine ⟨b5, os.reverse, rfl, seq_of e16, by rw [List.length_reverse]; omega, pmr, fun b6 H17 hb6 s17 e17 => ?_⟩
      rw [undo_rev pm, ntL_int] at e17
      walk_at "rd"
      have eu := s17 _ _ (s16 _ _ eu)
      refine r_lcL ?_
      walk_at "rd"
      refine r_lcL1 (seq_of eu) ?_
      refine lcL_map (fun v => match v with | .int y => V.int ((os.length : Int) - 1 - y) | v => v) (seq_of eu) (by rw [ntL_length]; omega) (fun _ => rfl)
        (fun m x H' R hm s18 hR => ?_) fun D2 H18 hD2 s18 e18 => ?_
      · obtain ⟨y, hy, rfl⟩ := ntL_at hm
        walk_at "rd"
        exact hR _ (Same.refl _)
      have e18 : H18 D2 = some (.lst (intL (((undo os).map fun k => os.length - 1 - k).map fun (k : Nat) => (k : Int)))) := by
        rw [e18, ← ntL_int]
        unfold ntL
        rw [List.map_map, List.map_map]
        congr 2
        refine List.map_congr_left fun k hk => ?_
        have h1 := order_lt pmu hk
        show V.int ((os.length : Int) - 1 - (k : Int)) = V.int ((os.length - 1 - k : Nat) : Int)
        congr 1
        omega
      refine r_eqInts (seq_of (s18 _ _ e17)) (seq_of e18) ?_
      exact q _ (s1.trans (s15.trans (s6.trans (s615.trans (s16.trans (s17.trans s18))))))
def spLaw (K : PySem.W.Frag) : Sp := fun vs H Q _ => ∃ (a : Addr) (ns : List Int), vs = [.ref a] ∧ SqL K H a (ns.map V.int) ∧ ns.length ≤ 63 ∧ ∀ H', Q (.bl true) H'
theorem ok_law (T : Top K mg) {f : Addr} {fd : FuncData} (F : Fun K "law" "law" s_law f fd) : FnOk P w K mg base CX0 4 f fd ["script"] (spLaw K) := by
  have C__law_take : Cal P w K mg base CX0 1 "_law_take" _ _ := ok_take T
  have C__law_deck : Cal P w K mg base CX0 2 "_law_deck" _ _ := ok_deck T
  have C__law_order : Cal P w K mg base CX0 2 "_law_order" _ _ := ok_order T
  have C__law_numbers : Cal P w K mg base CX0 2 "_law_numbers" _ _ := ok_numbers T
  have C__law_right : Cal P w K mg base CX0 3 "_law_right" _ _ := ok_right T
  refine F.ok sc_law (fun vs H Q E h => ?_) (fun cdv A outer s H vs Q E hr h => ?_)
  · obtain ⟨a, ns, rfl, _⟩ := h
    rfl
  · obtain ⟨a, ns, rfl, hS, hlen, q⟩ := h
    refine ⟨_, (pss_cons (ps_for PassesOwn.never rfl (piL K (by rfl) (pe_op op_cat (pe_lst (pa_cons (pe_op op_pow pe_int pe_int) pa_nil)) (pslL K (by rfl) (pv 0) po_none (po_some pe_int)))) (pg_name (i := 1) sc_law.nd rfl (by first | exact Or.inl rfl | exact Or.inr rfl)) (pss_cons (ps_set (i := 2) sc_law.nd rfl (by first | exact Or.inl rfl | exact Or.inr rfl) (pe_cal C__law_deck (hr.mono (by first | decide | omega)) pass0 (pa_cons (pv 1) pa_nil)))
      (pss_cons (ps_set (i := 3) sc_law.nd rfl (by first | exact Or.inl rfl | exact Or.inr rfl) (pe_cal C__law_take (hr.mono (by first | decide | omega)) pass0 (pa_cons (pv 2) (pa_cons pe_int pa_nil))))
      (pss_cons (ps_set (i := 4) sc_law.nd rfl (by first | exact Or.inl rfl | exact Or.inr rfl) (pe_cal C__law_order (hr.mono (by first | decide | omega)) pass0 (pa_cons (pv 2) (pa_cons (pv 3) pa_nil))))
      (pss_cons (ps_set (i := 5) sc_law.nd rfl (by first | exact Or.inl rfl | exact Or.inr rfl) (pe_cal C__law_numbers (hr.mono (by first | decide | omega)) pass0 (pa_cons (pv 2) (pa_cons (pv 3) pa_nil))))
      (pss_cons (ps_set (i := 6) sc_law.nd rfl (by first | exact Or.inl rfl | exact Or.inr rfl) (pe_cal C__law_numbers (hr.mono (by first | decide | omega)) pass0 (pa_cons (pv 2) (pa_cons (pv 3) pa_nil))))
      (pss_one (ps_if (pt_not (pt_val (pe_cal C__law_right (hr.mono (by first | decide | omega)) pass0 (pa_cons (pe_lc (own := [("k", 7)]) (g := (gName 7)) (by rfl) sc_law.nd (piL K (by rfl) (pv 4)) (blkOk_by (own := [("k", 7)]) (by kernel_rfl)) (fun _ _ _ _ _ => (pg_name (i := 7) sc_law.nd rfl (by first | exact Or.inl rfl | exact Or.inr rfl))) (fun _ _ _ _ _ => pts_nil) (fun _ _ _ _ _ => (pixL K (by rfl) (pv 5) (pv 7) (fun _ _ => rfl)))) (pa_cons (pe_lc (own := [("k", 7)]) (g := (gName 7)) (by rfl) sc_law.nd (piL K (by rfl) (pv 4)) (blkOk_by (own := [("k", 7)]) (by kernel_rfl)) (fun _ _ _ _ _ => (pg_name (i := 7) sc_law.nd rfl (by first | exact Or.inl rfl | exact Or.inr rfl))) (fun _ _ _ _ _ => pts_nil) (fun _ _ _ _ _ => (pixL K (by rfl) (pv 6) (pv 7) (fun _ _ => rfl)))) pa_nil))))) (pss_one (ps_ret pe_bl)) pss_nil))))))))
      (pss_one (ps_ret pe_bl))), ?_⟩
    refine r_st (σ' := [some (.ref a), none, none, none, none, none, none, none]) rfl ?_
    refine r_seq ?_
    refine r_forL ?_
    walk_at "rd"
    · refine ⟨by walk_at "sz", fun b hb => ?_⟩
      walk_at "rd"
      refine r_slL ((same_new hb).seq hS) fun c hc => ?_
      obtain ⟨cs, hcs⟩ := cut_ints ns none (some 15)
      rw [hcs]
      have hcs2 : cs.length ≤ 63 := by
        have := cutV_length (intL ns) none (some 15)
        rw [hcs, List.length_map, List.length_map] at this
        omega
      refine r_cat (by rw [upd_ne (ne_of_none upd_same hc)]; exact upd_same) upd_same (by rw [List.length_map, List.length_cons, List.length_nil]; omega) fun L hL => ?_
      walk_at "rd"
      have s0 : Same H _ := ((same_new hb).trans (same_new hc)).trans (same_new (o := .lst ([V.int (10 ^ Int.toNat 18)] ++ intL cs)) hL)
      generalize hH1 : upd (upd (upd H b (.lst [V.int (10 ^ Int.toNat 18)])) c (.lst (intL cs))) L (.lst ([V.int (10 ^ Int.toNat 18)] ++ intL cs)) = H1 at s0 ⊢
      have eL : H1 L = some (.lst (intL (10 ^ Int.toNat 18 :: cs))) := by
        rw [← hH1, upd_same]
        rfl
      refine r_forL1 (xs := intL (10 ^ Int.toNat 18 :: cs)) (seq_of eL) (fun i σ H' => (∃ v1 v2 v3 v4 v5 v6 : Option V, σ = [some (.ref a), v1, v2, v3, v4, v5, v6, none]) ∧ Same H1 H')
        ⟨⟨_, _, _, _, _, _, rfl⟩, Same.refl _⟩ (fun i σ H' _ p => seq_of (p.2 _ _ eL)) ?_ ?_
      · rintro i x σ H3 hi ⟨⟨v1, v2, v3, v4, v5, v6, rfl⟩, s3⟩
        obtain ⟨z, hz, rfl⟩ := int_at hi
        walk_at "rd"
        refine ⟨_, rfl, fun p H4 np s4 d4 => ?_⟩
        have np1 : H1 p = none := s3.free np
        have s14 := s3.trans s4
        walk_at "rd"
        refine ⟨p, _, rfl, d4, by omega, by omega, fun r5 H5 r50 r51 u5 d5 => ?_⟩
        obtain ⟨m, rfl⟩ : ∃ m : Nat, r5 = (m : Int) := ⟨r5.toNat, by omega⟩
        have s15 := same_of_upto s14 np1 u5
        walk_at "rd"
        refine ⟨p, m, rfl, d5, by omega, fun g H6 os hg u6 d6 e6 hop => ?_⟩
        have s16 := same_of_upto s15 np1 u6
        walk_at "rd"
        refine ⟨p, m, rfl, d6, by omega, fun l1 H7 ones hl1 u7 d7 e7 n1 r1 => ?_⟩
        have s17 := same_of_upto s16 np1 u7
        have e67 := u7 _ _ (d5.ne hg).symm e6
        walk_at "rd"
        refine ⟨p, m, rfl, d7, by omega, fun l2 H8 oths hl2 u8 d8 e8 n2 r2 => ?_⟩
        have s18 := same_of_upto s17 np1 u8
        have e68 := u8 _ _ (d5.ne hg).symm e67
        have e78 := u8 _ _ (d6.ne hl1).symm e7
        have hos : os.length = m := by rw [hop.length_eq, List.length_range]
        walk_at "rd"
        refine r_lcL ?_
        walk_at "rd"
        refine r_lcL1 (seq_of e68) ?_
        refine lcL_map (fun v => match v with | .int y => V.int (ones.getD y.toNat 0) | v => v) (seq_of e68) (by rw [ntL_length]; omega) (fun _ => rfl)
          (fun j x H' R hm s9 hR => ?_) fun D1 H9 hD1 s9 e9 => ?_
        · obtain ⟨y, hy, rfl⟩ := ntL_at hm
          have hy2 := List.mem_range.mp (hop.mem_iff.mp (List.mem_of_getElem? hy))
          walk_at "rd"
          refine r_ixL (seq_of (s9 _ _ e78)) (atI_nat (v := V.int (ones.getD y 0)) ?_) (hR _ (Same.refl _))
          rw [List.getElem?_map, getD_of (by omega)]
          rfl
        have e9 : H9 D1 = some (.lst (intL (pick ones os))) := by
          rw [e9]
          unfold ntL pick
          show _ = some (HO.lst (List.map V.int (List.map _ _)))
          rw [List.map_map, List.map_map]
          rfl
        walk_at "rd"
        refine r_lcL ?_
        walk_at "rd"
        refine r_lcL1 (seq_of (s9 _ _ e68)) ?_
        refine lcL_map (fun v => match v with | .int y => V.int (oths.getD y.toNat 0) | v => v) (seq_of (s9 _ _ e68)) (by rw [ntL_length]; omega) (fun _ => rfl)
          (fun j x H' R hm s10 hR => ?_) fun D2 H10 hD2 s10 e10 => ?_
        · obtain ⟨y, hy, rfl⟩ := ntL_at hm
          have hy2 := List.mem_range.mp (hop.mem_iff.mp (List.mem_of_getElem? hy))
          walk_at "rd"
          refine r_ixL (seq_of (s10 _ _ (s9 _ _ e8))) (atI_nat (v := V.int (oths.getD y 0)) ?_) (hR _ (Same.refl _))
          rw [List.getElem?_map, getD_of (by omega)]
          rfl
        have e10 : H10 D2 = some (.lst (intL (pick oths os))) := by
          rw [e10]
          unfold ntL pick
          show _ = some (HO.lst (List.map V.int (List.map _ _)))
          rw [List.map_map, List.map_map]
          rfl
        walk_at "rd"
        refine ⟨D1, D2, ones, oths, os, rfl, seq_of (s10 _ _ e9), seq_of e10, r1, r2, by omega, by omega, by rw [hos]; exact hop, by omega, fun H11 s11 => ?_⟩
        walk_at "rd"
        exact ⟨⟨_, _, _, _, _, _, rfl⟩, s18.trans (s9.trans (s10.trans s11))⟩
      · rintro σ H2 ⟨⟨v1, v2, v3, v4, v5, v6, rfl⟩, s2⟩
        walk_at "rd"
        exact q _
    all_goals walk_at "pw"

end
end K06


namespace K06
open PySem PySem.Spec PyProof.Rows L2 Px
theorem fin {P : Program} {w : World} {K : PySem.W.Frag} {mg : Str → Option Value} {h : Heap} {fa : Addr} (KX : K.In h) (hfa : mg "law" = some (.ref fa)) (T : Top K mg) :
    ∃ fd : FuncData, (∀ (s : Shared) (u : Value), BindsTo s fd ⟨[u], []⟩ [("script", u)]) ∧ ∀ base : Heap, K.In base → base.Ns mainGlobals mg → FnOk P w K mg base CX0 4 fa fd ["script"] (spLaw K) :=
  Px.law_end T.d_law (fun _ _ _ _ _ _ us hl => match us, hl with | [_], _ => rfl) (fun base f fd F => ok_law T F) hfa
end K06
open PySem PySem.W PyProof.Rows
set_option maxRecDepth 100000 in
set_option maxHeartbeats 0 in
theorem PySem.Challenge.cw_pilenets_k06_whole_rows_there_and_back_holds : PySem.Challenge.rw_pilenets_k06_whole_rows_there_and_back.Holds := by
  w_on; o_law; k_head; (case hw => w_witness2)
  k_fill
  refine L2.walk_of (l := PySem.Challenge.rw_pilenets_k06_whole_rows_there_and_back) (n := 63) (k := 4) (x := "script") (CX := fun _ => L2.CX0) (sp := fun w => K06.spLaw _) rfl (by decide) rfl ⟨rfl, by decide, by decide⟩ (fun w h Y => PySem.W.kIn_of Y) ?F (fun _ _ a ns hl _ hS => ⟨a, ns, rfl, hS, hl, fun _ => rfl⟩) (fun _ _ _ _ _ h => h)
  case F =>
    intro w mg fa h KX G hmg
    refine' K06.fin KX hmg ⟨?d_put_to_order, ?d_turned_about, ?d_undone_row, ?d_refuse_alike, ?d__law_stir, ?d__law_deck, ?d__law_take, ?d__law_order, ?d__law_numbers, ?d__law_row, ?d__law_right, ?d_law, ?b_enumerate, ?b_sorted, ?b_list, ?b_reversed, ?b_range, ?b_len, ?b_set⟩
    case d_put_to_order =>
      refine' Px.dfn_mk KX G ?a ?l ?c ?k
      (case a => k_is); (case l => k_is); (case c => k_is); (case k => k_is)
    case d_turned_about =>
      refine' Px.dfn_mk KX G ?a ?l ?c ?k
      (case a => k_is); (case l => k_is); (case c => k_is); (case k => k_is)
    case d_undone_row =>
      refine' Px.dfn_mk KX G ?a ?l ?c ?k
      (case a => k_is); (case l => k_is); (case c => k_is); (case k => k_is)
    case d_refuse_alike =>
      refine' Px.dfn_mk KX G ?a ?l ?c ?k
      (case a => k_is); (case l => k_is); (case c => k_is); (case k => k_is)
    case d__law_stir =>
      refine' Px.dfn_mk KX G ?a ?l ?c ?k
      (case a => k_is); (case l => k_is); (case c => k_is); (case k => k_is)
    case d__law_deck =>
      refine' Px.dfn_mk KX G ?a ?l ?c ?k
      (case a => k_is); (case l => k_is); (case c => k_is); (case k => k_is)
    case d__law_take =>
      refine' Px.dfn_mk KX G ?a ?l ?c ?k
      (case a => k_is); (case l => k_is); (case c => k_is); (case k => k_is)
    case d__law_order =>
      refine' Px.dfn_mk KX G ?a ?l ?c ?k
      (case a => k_is); (case l => k_is); (case c => k_is); (case k => k_is)
    case d__law_numbers =>
      refine' Px.dfn_mk KX G ?a ?l ?c ?k
      (case a => k_is); (case l => k_is); (case c => k_is); (case k => k_is)
    case d__law_row =>
      refine' Px.dfn_mk KX G ?a ?l ?c ?k
      (case a => k_is); (case l => k_is); (case c => k_is); (case k => k_is)
    case d__law_right =>
      refine' Px.dfn_mk KX G ?a ?l ?c ?k
      (case a => k_is); (case l => k_is); (case c => k_is); (case k => k_is)
    case d_law =>
      refine' Px.dfn_mk KX G ?a ?l ?c ?k
      (case a => k_is); (case l => k_is); (case c => k_is); (case k => k_is)
    case b_enumerate =>
      refine' PySem.W.mg_none_of KX G ?a
      (case a => k_is)
    case b_sorted =>
      refine' PySem.W.mg_none_of KX G ?a
      (case a => k_is)
    case b_list =>
      refine' PySem.W.mg_none_of KX G ?a
      (case a => k_is)
    case b_reversed =>
      refine' PySem.W.mg_none_of KX G ?a
      (case a => k_is)
    case b_range =>
      refine' PySem.W.mg_none_of KX G ?a
      (case a => k_is)
    case b_len =>
      refine' PySem.W.mg_none_of KX G ?a
      (case a => k_is)
    case b_set =>
      refine' PySem.W.mg_none_of KX G ?a
      (case a => k_is)
