import PyProof.Rows.All
import Wide.All
import OpenK.AllK
import Wide.FinOn
import HandS.ForMost
import HandS.Exc
import HandS.ExcOwn
import HandS.ExcInit
import HandS.TryOnly
import HandS.TryMany
import HandS.WordsExc
import HandS.Gcd
import HandS.Wide
import HandS.WideMore
import HandS.WideBits
import HandS.IsInst
import HandS.Style
import HandS.Flow
import HandS.SortRule
import HandS.SortInts
import HandS.Conv
import HandS.ExcField
import KE.SortData
import HandS.More
import KE.BitLaws
import KE.GoesEnum
import KE.GoesMore
import PyProof.WalksMore
import HandS.TupAny
import HandS.Zip
import HandS.Rev
import HandS.TupMul
import HandS.Deep
import KE.DataMinMax
import KE.IntBitsLaws
import PyProof.SliceList
import KE.GoesZip
import KE.GoesNew
import HandS.SetFor
import HandS.Strs
import HandS.List
import HandS.Dict
import KE.KRevIter
import HandS.RevRange
import PySem.Challenge.RW_classledger_k01_moduli_and_signs
set_option Elab.async false
set_option linter.all false
set_option maxRecDepth 100000
set_option maxHeartbeats 4000000
namespace CB
open PySem PySem.Spec PyProof.Rows L2
/-! ### operators of any size -/
section
variable {X : Cx}
theorem op_mulI : OpR X (binaryOp .Mult) (rI IntMulOk fun i j => .int (i * j)) := opI fun _ _ _ _ _ _ _ hc q => mul_int q hc
theorem iop_mulI : OpR X (inplaceOp .Mult) (rI IntMulOk fun i j => .int (i * j)) := opI fun _ _ _ _ _ _ _ hc q => imul_int q hc
/-- math.isqrt of an int below 2 ^ 13000 -/
def rIsqrt : List V → Hp → VK → Prop := fun vs H Q => ∃ a : Int, vs = [.int a] ∧ 0 ≤ a ∧ a < 2 ^ 13000 ∧ Q (.int ((Float64.isqrt a.toNat : Nat) : Int)) H
theorem log_lt {n k : Nat} (h : n < 2 ^ (k + 1)) : n.log2 ≤ k := PySem.W.mg_log h
theorem cr_isqrt : CallR X (.builtin "math.isqrt") rIsqrt := by
  intro pins s σ H vs us Q I r h
  obtain ⟨a, rfl, h0, h1, q⟩ := h
  obtain ⟨u, rfl, ru⟩ := vals1 r
  obtain ⟨t, rfl⟩ := ru
  have hl : a.toNat.log2 ≤ 12999 := log_lt (by
    have e : ((2 : Int) ^ 13000) = ((2 ^ 13000 : Nat) : Int) := by rw [Int.natCast_pow]; rfl
    rw [e] at h1
    show a.toNat < 2 ^ 13000
    omega)
  exact call_function_meets PySem.W.MGF.kind_isqrt PySem.W.MGF.plain_isqrt PySem.W.MGF.entry_isqrt (PySem.W.MGF.args_isqrt _) (PySem.W.mg_run_isqrt a t (by omega) (by omega) (by omega)).meets
    ⟨.int _, H, I.tok _, ⟨_, rfl⟩, q⟩
theorem isqrt_spec (n : Nat) : Float64.isqrt n * Float64.isqrt n ≤ n ∧ n < (Float64.isqrt n + 1) * (Float64.isqrt n + 1) := PySem.Float64.isqrt_spec n
/-! ### a < b < c < d -/
def tChain3 (r r' r'' : R2) (ta tb tc td : TE) : TE := fun σ H Q => ta σ H fun x H1 => tb σ H1 fun y H2 => r x y H2 fun z H3 => ∃ k, z = .bl k ∧
  (if k = true then tc σ H3 fun y' H4 => r' y y' H4 fun z' H5 => ∃ k', z' = .bl k' ∧ (if k' = true then td σ H5 fun w' H6 => r'' y' w' H6 Q else Q (.bl false) H5) else Q (.bl false) H3)
variable {a b c d : Expr} {ta tb tc td : TE} {pos : Pos}
theorem pt_chain3 {o1 o2 o3 : CmpOp} {r r' r'' : R2} (ho : OpR X (compareOp o1) r) (ho' : OpR X (compareOp o2) r') (ho'' : OpR X (compareOp o3) r'') (ha : PE X a ta) (hb : PE X b tb) (hc : PE X c tc) (hd : PE X d td)
    (hm : lastMarks [o1, o2, o3] [b, c, d] = false := by with_unfolding_all rfl) : PT X (.Compare a [o1, o2, o3] [b, c, d] pos) (tTest (tChain3 r r' r'' ta tb tc td)) := by
  refine ⟨fun pins s σ H Q I h => ?_⟩
  refine isTrue_chain (thn (ha.run pins s σ H _ I h) fun v s1 ⟨x, H1, I1, r1, q1⟩ => test_link (thn (hb.run pins s1 σ H1 _ I1 q1) fun u s2 ⟨y, H2, I2, r2, q2⟩ =>
    thn (ho pins s2 σ H2 x y v u _ I2 r1 r2 q2) fun d1 s3 ⟨z, H3, I3, r3, k, e, q3⟩ => ?_)) hm
  subst e
  cases r3
  refine wpAny_truthy_bool ?_
  cases k with
  | false =>
    obtain ⟨k', e', q'⟩ := q3
    cases e'
    exact ite_ff ⟨H3, I3, q'⟩
  | true =>
    refine ite_tt (test_link (thn (hc.run pins s3 σ H3 _ I3 q3) fun u' s4 ⟨y', H4, I4, r4, q4⟩ => thn (ho' pins s4 σ H4 y y' u u' _ I4 r2 r4 q4) fun d2 s5 ⟨z2, H5, I5, r5, k2, e2, q5⟩ => ?_))
    subst e2
    cases r5
    refine wpAny_truthy_bool ?_
    cases k2 with
    | false =>
      obtain ⟨k', e', q'⟩ := q5
      cases e'
      exact ite_ff ⟨H5, I5, q'⟩
    | true =>
      refine ite_tt (test_last (thn (hd.run pins s5 σ H5 _ I5 q5) fun w' s6 ⟨z3, H6, I6, r6, q6⟩ => thn (ho'' pins s6 σ H6 y' z3 u' w' _ I6 r4 r6 q6) fun d3 s7 ⟨z4, H7, I7, r7, k4, e4, q7⟩ => ?_))
      subst e4
      cases r7
      exact wpAny_truthy_bool ⟨H7, I7, q7⟩
end
/-! ### a def that a caller calls by its name -/
structure Cal (P : Program) (w : World) (K : PySem.W.Frag) (mg : Str → Option Value) (base : Heap) (x : Str) (k : Nat) (ps : List Str) (sp : Sp) : Prop where
  ok : ∃ f fd, FnOk P w K mg base CX0 k f fd ps sp ∧ mg x = some (.ref f) ∧ PySem.W.keepIn K (.ref f) = true ∧ Binds K fd ps []
section
variable {X : Cx} {k : Nat} {ps : List Str} {sp : Sp} {x : Str} {p pos : Pos} {e : Expr} {es : List Expr} {t : TA}
theorem pe_cal (C : Cal X.prog X.w X.K X.mg X.base x k ps sp) (hr : Room k X.A) (hg : Gl X x) (ha : PA X (e :: es) t) (hdb : (x == ("__debug__" : Str)) = false := by decide)
    (he : starEach (e :: es) X.env = (false, eval e X.env) :: starEach es X.env := by rfl) (hpl : (backTo pos (starEach es X.env)).any (·.1) = false := by rfl) : PE X (.Call (.Name x p) (e :: es) [] pos) (tCall sp [] E0 t) := by
  obtain ⟨f, fd, F, hm, hk, hb⟩ := C.ok
  exact pe_call F hr hg hm hk hb .nil pass0 ha hdb he hpl
end
/-! ### readings, unfolded -/
section
variable {σ : L2.St} {H : Hp} {Q : VK} {QT : Bool → Hp → Prop} {QA : List V → Hp → Prop} {D : Ends} {i j : Nat} {v x y : V} {ta tb tc td : TE} {tA tB' : TT} {t u : TS} {tr : TA} {K : PySem.W.Frag}
theorem rd_var : tVar i σ H Q = ∃ v, σ[i]? = some (some v) ∧ Q v H := rfl
theorem rd_C : tC v σ H Q = Q v H := rfl
theorem rd_op {r : R2} : tOp r ta tb σ H Q = ta σ H fun x H1 => tb σ H1 fun y H2 => r x y H2 Q := rfl
theorem rd_un {r : V → Hp → VK → Prop} : tUn r ta σ H Q = ta σ H fun x H1 => r x H1 Q := rfl
theorem rd_I {C : Int → Int → Prop} {g : Int → Int → V} : rI C g x y H Q = ∃ i j, x = .int i ∧ y = .int j ∧ C i j ∧ Q (g i j) H := rfl
theorem rd_I0 {g : Int → Int → V} : rI0 g x y H Q = ∃ i j, x = .int i ∧ y = .int j ∧ Q (g i j) H := rfl
theorem rd_U {g : Int → V} : rU g x H Q = ∃ i, x = .int i ∧ Q (g i) H := rfl
theorem rd_Eq : rEq x y H Q = (scal x y = true ∧ Q (.bl (decide (x = y))) H) := rfl
theorem rd_Ne : rNe x y H Q = (scal x y = true ∧ Q (.bl (!decide (x = y))) H) := rfl
theorem rd_test : tTest ta σ H QT = ta σ H fun x H' => ∃ k, x = .bl k ∧ QT k H' := rfl
theorem rd_B : L2.tB ta σ H QT = ta σ H fun x H' => ∃ k, x = .bl k ∧ QT k H' := rfl
theorem rd_and {s t : TT} : tAnd s t σ H QT = s σ H fun c H1 => if c = true then t σ H1 QT else QT false H1 := rfl
theorem rd_or {s t : TT} : tOr s t σ H QT = s σ H fun c H1 => if c = true then QT true H1 else t σ H1 QT := rfl
theorem rd_not {s : TT} : tNot s σ H QT = s σ H fun c H1 => QT (!c) H1 := rfl
theorem rd_andV : tAndV ta tb σ H Q = ta σ H fun x H1 => ∃ c, x = .bl c ∧ if c = true then tb σ H1 Q else Q (.bl false) H1 := rfl
theorem rd_orV : tOrV ta tb σ H Q = ta σ H fun x H1 => ∃ c, x = .bl c ∧ if c = true then Q (.bl true) H1 else tb σ H1 Q := rfl
theorem rd_notV : tNotV ta σ H Q = ta σ H fun x H1 => ∃ c, x = .bl c ∧ Q (.bl (!c)) H1 := rfl
theorem rd_if {c : TT} : tIf c ta tb σ H Q = c σ H fun b H1 => if b = true then ta σ H1 Q else tb σ H1 Q := rfl
theorem rd_chain {r r' : R2} : tChain r r' ta tb tc σ H Q = ta σ H fun x H1 => tb σ H1 fun y H2 => r x y H2 fun z H3 => ∃ k, z = .bl k ∧ (if k = true then tc σ H3 fun w' H4 => r' y w' H4 Q else Q (.bl false) H3) := rfl
theorem rd_chain3 {r r' r'' : R2} : tChain3 r r' r'' ta tb tc td σ H Q = ta σ H fun x H1 => tb σ H1 fun y H2 => r x y H2 fun z H3 => ∃ k, z = .bl k ∧
  (if k = true then tc σ H3 fun y' H4 => r' y y' H4 fun z' H5 => ∃ k', z' = .bl k' ∧ (if k' = true then td σ H5 fun w' H6 => r'' y' w' H6 Q else Q (.bl false) H5) else Q (.bl false) H3) := rfl
theorem rd_next : tNext D σ H = D.nx σ H := rfl
theorem rd_seq : tSeq t u D σ H = t { D with nx := u D } σ H := rfl
theorem rd_drop : tDrop ta D σ H = ta σ H fun _ H1 => D.nx σ H1 := rfl
theorem rd_ret : tRet ta D σ H = ta σ H D.rt := rfl
theorem rd_retN : tRetN D σ H = D.rt .non H := rfl
theorem rd_break : tBreak D σ H = D.bk σ H := rfl
theorem rd_cont : tCont D σ H = D.ct σ H := rfl
theorem rd_ifS {c : TT} : tIfS c t u D σ H = c σ H fun b H1 => if b = true then t D σ H1 else u D σ H1 := rfl
theorem rd_asg {g : TG} : tAsg ta g D σ H = ta σ H fun x H1 => g x σ H1 D.nx := rfl
theorem rd_name {QS : L2.St → Hp → Prop} : gName i v σ H QS = QS (σ.set i (some v)) H := rfl
theorem rd_gsub {to ti : TE} {s : TSet} {QS : L2.St → Hp → Prop} : gSub to ti s v σ H QS = to σ H fun o H1 => ti σ H1 fun i H2 => s o i v H2 fun H3 => QS σ H3 := rfl
theorem rd_gtup {n : Nat} {g : TGs} {QS : L2.St → Hp → Prop} : gTup K n g v σ H QS = ∃ a xs, v = .ref a ∧ SqT K H a xs ∧ xs.length = n ∧ g xs σ H QS := rfl
theorem rd_gcons {g : TG} {gs : TGs} {vs : List V} {QS : L2.St → Hp → Prop} : gCons g gs vs σ H QS = ∃ v r, vs = v :: r ∧ g v σ H fun σ' H' => gs r σ' H' QS := rfl
theorem rd_gnil {vs : List V} {QS : L2.St → Hp → Prop} : gNil vs σ H QS = (vs = [] ∧ QS σ H) := rfl
theorem rd_par : tPar i j tr D σ H = tr σ H fun vs H1 => ∃ v w, vs = [v, w] ∧ D.nx ((σ.set i (some v)).set j (some w)) H1 := rfl
theorem rd_aug {te : TE} {ti : TIp} : tAug i te ti D σ H = ∃ x, σ[i]? = some (some x) ∧ te σ H fun y H1 => ti x y H1 fun z H2 => D.nx (σ.set i (some z)) H2 := rfl
theorem rd_ipI {f : Int → Int → Int} : ipI f x y H Q = ∃ i j, x = .int i ∧ y = .int j ∧ Q (.int (f i j)) H := rfl
theorem rd_nil : tNil σ H QA = QA [] H := rfl
theorem rd_cons : tCons ta tr σ H QA = ta σ H fun x H1 => tr σ H1 fun xs H2 => QA (x :: xs) H2 := rfl
theorem rd_tup : tTup tr σ H Q = tr σ H fun xs H1 => xs.length ≤ sizeLine ∧ ∀ p, H1 p = none → Q (.ref p) (upd H1 p (.tup xs)) := rfl
theorem rd_lst : tLst tr σ H Q = tr σ H fun xs H1 => xs.length ≤ sizeLine ∧ ∀ p, H1 p = none → Q (.ref p) (upd H1 p (.lst xs)) := rfl
theorem rd_CB {r : List V → Hp → VK → Prop} : tCB r tr σ H Q = tr σ H fun vs H1 => r vs H1 Q := rfl
theorem rd_call {sp : Sp} {dvs : List V} {E : XK} : tCall sp dvs E tr σ H Q = tr σ H fun vs H1 => sp (vs ++ dvs) H1 Q E := rfl
theorem rd_callS {sp : Sp} {E : L2.St → XK} : tCallS sp E tr σ H Q = tr σ H fun vs H1 => sp vs H1 Q (E σ) := rfl
theorem rd_ixL : rIxL K x y H Q = ∃ p xs i v, x = .ref p ∧ y = .int i ∧ SqL K H p xs ∧ atI xs i = some v ∧ Q v H := rfl
theorem rd_ixT : rIxT K x y H Q = ∃ p xs i v, x = .ref p ∧ y = .int i ∧ SqT K H p xs ∧ atI xs i = some v ∧ Q v H := rfl
theorem rd_isqrt {vs : List V} : rIsqrt vs H Q = ∃ a : Int, vs = [.int a] ∧ 0 ≤ a ∧ a < 2 ^ 13000 ∧ Q (.int ((Float64.isqrt a.toNat : Nat) : Int)) H := rfl
theorem rd_sum {vs : List V} : rSum K vs H Q = ∃ (a : Addr) (ns : List Int), vs = [V.ref a] ∧ SqL K H a (ns.map V.int) ∧ Q (.int ns.sum) H := rfl
end

/-! ### a def of the text: it stands, its name, its parameters -/
structure Dn (K : PySem.W.Frag) (mg : Str → Option Value) (x : Str) (st : Stmt) (ps : List Str) : Prop where
  ok : ∃ f fd, Fun K x x st f fd ∧ mg x = some (.ref f) ∧ Binds K fd ps []
section
variable {P : Program} {w : World} {K : PySem.W.Frag} {mg : Str → Option Value} {base : Heap}
theorem Dn.cal {x : Str} {st : Stmt} {N ps : List Str} {k : Nat} {sp : Sp} (D : Dn K mg x st ps) (S : FnScope N ps (defScope st)) (len : ∀ vs H Q E, sp vs H Q E → vs.length = ps.length)
    (hbody : ∀ (f : Addr) (cdv : Value) (A : Around) (outer : List Env) (s : Shared) (H : Hp) (vs : List V) (Q : VK) (E : XK), Room k (A.deeper (envOfC x (defScope st) s.heap.objs.size f cdv)) → sp vs H Q E →
      ∃ t, PSs (cxOf CX0 P w K mg base N x (defScope st) f cdv A outer s H E).nox (defBody st) t ∧ t { nx := fun _ H' => Q .non H', rt := Q } (start N vs) H) : Cal P w K mg base x (k + 1) ps sp := by
  obtain ⟨f, fd, F, hm, hb⟩ := D.ok
  exact ⟨f, fd, F.ok S len fun cdv A outer s H vs Q E hr h => hbody f cdv A outer s H vs Q E hr h, hm, F.kp, hb⟩
end
/-- a weaker wish -/
theorem same_upd {H : Hp} {p : Addr} {o : HO} (h : H p = none) : Same H (upd H p o) := fun b x e => by
  rw [upd_ne (ne_of_none e h)]
  exact e
theorem ex_int {p : Int → Prop} {i : Int} : (∃ j, V.int i = V.int j ∧ p j) = p i := by simp
theorem ex_bl {p : Bool → Prop} {i : Bool} : (∃ j, V.bl i = V.bl j ∧ p j) = p i := by simp
theorem ex_ref {p : Addr → Prop} {i : Addr} : (∃ j, V.ref i = V.ref j ∧ p j) = p i := by simp
theorem ex_str {p : Str → Prop} {i : Str} : (∃ j, V.str i = V.str j ∧ p j) = p i := by simp
theorem ex_some {p : V → Prop} {x : V} : (∃ v, some (some x) = some (some v) ∧ p v) = p x := by simp
theorem ex_2i {p : Int → Int → Prop} {i j : Int} : (∃ a b, V.int i = V.int a ∧ V.int j = V.int b ∧ p a b) = p i j := by simp
theorem ex_l1 {p : Int → Prop} {i : Int} : (∃ j, [V.int i] = [V.int j] ∧ p j) = p i := by simp
theorem ex_l2 {p : Int → Int → Prop} {i j : Int} : (∃ a b, [V.int i, V.int j] = [V.int a, V.int b] ∧ p a b) = p i j := propext ⟨fun ⟨_, _, e, h⟩ => by cases e; exact h, fun h => ⟨_, _, rfl, h⟩⟩
theorem ex_v2 {p : V → V → Prop} {i j : V} : (∃ a b, [i, j] = [a, b] ∧ p a b) = p i j := propext ⟨fun ⟨_, _, e, h⟩ => by cases e; exact h, fun h => ⟨_, _, rfl, h⟩⟩
theorem int1_eq {p : Int → Prop} {q : Bool → Prop} {i : Int} : ((∃ j, [V.int i] = [V.int j] ∧ p j) ∨ ∃ k, [V.int i] = [V.bl k] ∧ q k) = p i := by simp
theorem scal_int {i j : Int} : (scal (V.int i) (V.int j) = true) = True := by simp [scal]
theorem scal_str {i j : Str} : (scal (V.str i) (V.str j) = true) = True := by simp [scal]
theorem dec_ii {i j : Int} : decide (V.int i = V.int j) = decide (i = j) := by simp
theorem ite_dec {p : Prop} [Decidable p] {A B : Prop} : (if decide p = true then A else B) = (if p then A else B) := by simp
theorem ite_ndec {p : Prop} [Decidable p] {A B : Prop} : (if (!decide p) = true then A else B) = (if p then B else A) := by
  by_cases h : p <;> simp [h]
section
variable {H : Hp} {Q : VK} {x y v : V}
theorem rd_setL {R : Hp → Prop} : rSetL x y v H R = ∃ p xs k j, x = .ref p ∧ y = .int k ∧ H p = some (.lst xs) ∧ ixN xs.length k = some j ∧ R (upd H p (.lst (xs.set j v))) := rfl
theorem rd_append {K : PySem.W.Frag} {to : TE} {t : TA} {σ : L2.St} : tBM K "list" rAppend to t σ H Q = to σ H fun x H1 => tyV K "list" x H1 ∧ t σ H1 fun xs H2 => ∃ l ys y, x = .ref l ∧ xs = [y] ∧ H2 l = some (.lst ys) ∧ ys.length < sizeLine ∧ Q .non (upd H2 l (.lst (ys ++ [y]))) := rfl
theorem K_nox {X : Cx} : X.nox.K = X.K := rfl
theorem K_cxOf {CX : CXT} {P : Program} {w : World} {K : PySem.W.Frag} {mg : Str → Option Value} {base : Heap} {N : List Str} {qual : Str} {scope : Scope} {f : Addr} {cd : Value} {A : Around} {outer : List Env} {s : Shared} {H : Hp} {E : XK} :
  (cxOf CX P w K mg base N qual scope f cd A outer s H E).K = K := rfl
end
/-- int * int with a small side -/
theorem mulL {i j : Int} (h : -(2 ^ 64) < i ∧ i < 2 ^ 64) : IntMulOk i j := CMul.ok (.inl h)
theorem mulR {i j : Int} (h : -(2 ^ 64) < j ∧ j < 2 ^ 64) : IntMulOk i j := CMul.ok (.inr h)
theorem tyL {K : PySem.W.Frag} {l : Addr} {xs : List V} {H : Hp} (h : H l = some (.lst xs)) : tyV K "list" (.ref l) H := .inl ⟨rfl, _, SqL.of h⟩
/-! ### loops, by a word: the reading stops at ForL .. -/
def ForJ (J : It) (g : TG) (tb : TS) (D : Ends) (σ : L2.St) (H1 : Hp) : Prop := ∃ W : Nat → Nat → L2.St → Hp → Prop, (∃ m, W 0 m σ H1) ∧ ∀ i m σ H, W i m σ H →
  (J.stop i H ∧ D.nx σ H) ∨ (J.go i H ∧ ∃ N : L2.St → Hp → Prop, (∀ σ' H', N σ' H' → ∃ m', m' < m ∧ W (i + 1) m' σ' H') ∧ ∀ x H', J.yld i H x H' → g x σ H' fun σ2 H2 => tb { D with nx := N, ct := N, bk := D.nx } σ2 H2)
def ForL (K : PySem.W.Frag) (a : Addr) := ForJ (Itl K a)
def ForT (K : PySem.W.Frag) (a : Addr) := ForJ (Itt K a)
def ForR (lo : Int) (n : Nat) := ForJ (Itr lo n)
def ForC (lo c : Int) (n : Nat) := ForJ (Itc lo c n)
section
variable {K : PySem.W.Frag} {a : Addr} {xs : List V} {g : TG} {tb : TS} {D : Ends} {σ : L2.St} {H : Hp} {te : TE} {ta : TA}
theorem rd_forL : tFor (iList K te) g tb D σ H = te σ H fun x H1 => ∃ a, x = .ref a ∧ (∃ xs, SqL K H1 a xs) ∧ ForL K a g tb D σ H1 := rfl
theorem rd_forT : tFor (iTup K te) g tb D σ H = te σ H fun x H1 => ∃ a, x = .ref a ∧ (∃ xs, SqT K H1 a xs) ∧ ForT K a g tb D σ H1 := rfl
theorem rd_forR1 : tFor (iRng1 ta) g tb D σ H = ta σ H fun vs H1 => ∃ j : Int, vs = [.int j] ∧ -(2 ^ 62) ≤ j ∧ j < 2 ^ 62 ∧ ForR 0 j.toNat g tb D σ H1 := rfl
theorem rd_forR2 : tFor (iRng2 ta) g tb D σ H = ta σ H fun vs H1 => ∃ i j : Int, vs = [.int i, .int j] ∧ (-(2 ^ 62) ≤ i ∧ i < 2 ^ 62 ∧ -(2 ^ 62) ≤ j ∧ j < 2 ^ 62) ∧ ForR i (j - i).toNat g tb D σ H1 := rfl
theorem rd_forR3 : tFor (iRng3 ta) g tb D σ H = ta σ H fun vs H1 => ∃ (i j c : Int) (n : Nat), vs = [.int i, .int j, .int c] ∧ RgC i j c n ∧ ForC i c n g tb D σ H1 := rfl
theorem ForL.mk (Pv : Nat → L2.St → Hp → Prop) (h0 : Pv 0 σ H) (hl : ∀ i σ H, i ≤ xs.length → Pv i σ H → SqL K H a xs)
    (hs : ∀ i x σ H, xs[i]? = some x → Pv i σ H → g x σ H fun σ2 H2 => tb { D with nx := Pv (i + 1), ct := Pv (i + 1), bk := D.nx } σ2 H2) (hd : ∀ σ H, Pv xs.length σ H → D.nx σ H) : ForL K a g tb D σ H := for_list Pv h0 hl hs hd
theorem ForT.mk (Pv : Nat → L2.St → Hp → Prop) (h0 : Pv 0 σ H) (hl : ∀ i σ H, i ≤ xs.length → Pv i σ H → SqT K H a xs)
    (hs : ∀ i x σ H, xs[i]? = some x → Pv i σ H → g x σ H fun σ2 H2 => tb { D with nx := Pv (i + 1), ct := Pv (i + 1), bk := D.nx } σ2 H2) (hd : ∀ σ H, Pv xs.length σ H → D.nx σ H) : ForT K a g tb D σ H := for_tup Pv h0 hl hs hd
theorem ForR.mk {lo : Int} {n : Nat} (Pv : Nat → L2.St → Hp → Prop) (h0 : Pv 0 σ H)
    (hs : ∀ i σ H, i < n → Pv i σ H → g (.int (lo + i)) σ H fun σ2 H2 => tb { D with nx := Pv (i + 1), ct := Pv (i + 1), bk := D.nx } σ2 H2) (hd : ∀ σ H, Pv n σ H → D.nx σ H) : ForR lo n g tb D σ H := for_range Pv h0 hs hd
theorem ForC.mk {lo c : Int} {n : Nat} (Pv : Nat → L2.St → Hp → Prop) (h0 : Pv 0 σ H)
    (hs : ∀ i σ H, i < n → Pv i σ H → g (.int (lo + (i : Nat) * c)) σ H fun σ2 H2 => tb { D with nx := Pv (i + 1), ct := Pv (i + 1), bk := D.nx } σ2 H2) (hd : ∀ σ H, Pv n σ H → D.nx σ H) : ForC lo c n g tb D σ H := for_rangeC Pv h0 hs hd
/-- while, the test's answer told (it lays nothing) -/
theorem while_mk {c : TT} (Pv : L2.St → Hp → Prop) (μ : L2.St → Hp → Nat) (h0 : Pv σ H)
    (hs : ∀ σ H, Pv σ H → ∃ b : Bool, (∀ Q : Bool → Hp → Prop, Q b H → c σ H Q) ∧ (b = true → tb { D with nx := fun σ' H' => Pv σ' H' ∧ μ σ' H' < μ σ H, ct := fun σ' H' => Pv σ' H' ∧ μ σ' H' < μ σ H, bk := D.nx } σ H) ∧ (b = false → D.nx σ H)) : tWhile c tb D σ H := by
  refine ⟨fun m σ H => m = μ σ H ∧ Pv σ H, ⟨_, rfl, h0⟩, ?_⟩
  rintro m σ H ⟨rfl, p⟩
  obtain ⟨b, hc, h1, h2⟩ := hs σ H p
  refine hc _ ?_
  cases b with
  | true => rw [if_pos rfl]; exact ⟨_, fun σ' H' ⟨p', l⟩ => ⟨_, l, rfl, p'⟩, h1 rfl⟩
  | false => rw [if_neg Bool.false_ne_true]; exact h2 rfl
end
/-! ### comprehensions -/
def LcJ (J : It) (g : TG) (tt : TT) (te : TE) (vs : List Nat) (σ : L2.St) (H1 : Hp) (Q : VK) : Prop := ∀ D, H1 D = none → ∃ W : Nat → Nat → Hp → Prop, (∃ m, W 0 m (upd H1 D (.lst []))) ∧ ∀ i m H, W i m H →
  (J.stop i H ∧ Q (.ref D) H) ∨ (J.go i H ∧ ∃ Nx : Hp → Prop, (∀ H', Nx H' → ∃ m', m' < m ∧ W (i + 1) m' H') ∧ ∀ x H', J.yld i H x H' → g x (wipe σ vs) H' fun σ2 H2 => wipe σ2 vs = wipe σ vs ∧ tt σ2 H2 fun b H3 =>
    if b = true then te σ2 H3 fun y H4 => ∃ acc, H4 D = some (.lst acc) ∧ acc.length < sizeLine ∧ Nx (upd H4 D (.lst (acc ++ [y]))) else Nx H3)
def LcL (K : PySem.W.Frag) (a : Addr) := LcJ (Itl K a)
def LcT (K : PySem.W.Frag) (a : Addr) := LcJ (Itt K a)
def LcR (lo : Int) (n : Nat) := LcJ (Itr lo n)
section
variable {K : PySem.W.Frag} {a : Addr} {xs : List V} {g : TG} {tt : TT} {te tl : TE} {ta : TA} {vs : List Nat} {σ : L2.St} {H : Hp} {Q : VK}
theorem rd_lcL : tLc (iList K tl) g tt te vs σ H Q = tl σ H fun x H1 => ∃ a, x = .ref a ∧ (∃ xs, SqL K H1 a xs) ∧ LcL K a g tt te vs σ H1 Q := rfl
theorem rd_lcT : tLc (iTup K tl) g tt te vs σ H Q = tl σ H fun x H1 => ∃ a, x = .ref a ∧ (∃ xs, SqT K H1 a xs) ∧ LcT K a g tt te vs σ H1 Q := rfl
theorem rd_lcR1 : tLc (iRng1 ta) g tt te vs σ H Q = ta σ H fun us H1 => ∃ j : Int, us = [.int j] ∧ -(2 ^ 62) ≤ j ∧ j < 2 ^ 62 ∧ LcR 0 j.toNat g tt te vs σ H1 Q := rfl
theorem rd_lcR2 : tLc (iRng2 ta) g tt te vs σ H Q = ta σ H fun us H1 => ∃ i j : Int, us = [.int i, .int j] ∧ (-(2 ^ 62) ≤ i ∧ i < 2 ^ 62 ∧ -(2 ^ 62) ≤ j ∧ j < 2 ^ 62) ∧ LcR i (j - i).toNat g tt te vs σ H1 Q := rfl
/-- the word of a comprehension at D: what is made so far, the heap -/
theorem LcL.mk (Pv : Nat → Addr → Hp → Prop) (h0 : ∀ D, H D = none → Pv 0 D (upd H D (.lst []))) (hl : ∀ D i H, i ≤ xs.length → Pv i D H → SqL K H a xs)
    (hs : ∀ D i x H, xs[i]? = some x → Pv i D H → g x (wipe σ vs) H fun σ2 H2 => wipe σ2 vs = wipe σ vs ∧ tt σ2 H2 fun b H3 =>
      if b = true then te σ2 H3 fun y H4 => ∃ acc, H4 D = some (.lst acc) ∧ acc.length < sizeLine ∧ Pv (i + 1) D (upd H4 D (.lst (acc ++ [y]))) else Pv (i + 1) D H3) (hd : ∀ D H', H D = none → Pv xs.length D H' → Q (.ref D) H') : LcL K a g tt te vs σ H Q :=
  fun D hD => lc_list (Qd := fun H' => Q (.ref D) H') (fun i H => Pv i D H) (h0 D hD) (hl D) (hs D) (fun H' p => hd D H' hD p)
theorem LcT.mk (Pv : Nat → Addr → Hp → Prop) (h0 : ∀ D, H D = none → Pv 0 D (upd H D (.lst []))) (hl : ∀ D i H, i ≤ xs.length → Pv i D H → SqT K H a xs)
    (hs : ∀ D i x H, xs[i]? = some x → Pv i D H → g x (wipe σ vs) H fun σ2 H2 => wipe σ2 vs = wipe σ vs ∧ tt σ2 H2 fun b H3 =>
      if b = true then te σ2 H3 fun y H4 => ∃ acc, H4 D = some (.lst acc) ∧ acc.length < sizeLine ∧ Pv (i + 1) D (upd H4 D (.lst (acc ++ [y]))) else Pv (i + 1) D H3) (hd : ∀ D H', H D = none → Pv xs.length D H' → Q (.ref D) H') : LcT K a g tt te vs σ H Q :=
  fun D hD => lc_tup (Qd := fun H' => Q (.ref D) H') (fun i H => Pv i D H) (h0 D hD) (hl D) (hs D) (fun H' p => hd D H' hD p)
theorem LcR.mk {lo : Int} {n : Nat} (Pv : Nat → Addr → Hp → Prop) (h0 : ∀ D, H D = none → Pv 0 D (upd H D (.lst [])))
    (hs : ∀ D i H, i < n → Pv i D H → g (.int (lo + i)) (wipe σ vs) H fun σ2 H2 => wipe σ2 vs = wipe σ vs ∧ tt σ2 H2 fun b H3 =>
      if b = true then te σ2 H3 fun y H4 => ∃ acc, H4 D = some (.lst acc) ∧ acc.length < sizeLine ∧ Pv (i + 1) D (upd H4 D (.lst (acc ++ [y]))) else Pv (i + 1) D H3) (hd : ∀ D H', H D = none → Pv n D H' → Q (.ref D) H') : LcR lo n g tt te vs σ H Q :=
  fun D hD => lc_range (Qd := fun H' => Q (.ref D) H') (fun i H => Pv i D H) (h0 D hD) (hs D) (fun H' p => hd D H' hD p)
theorem rd_yes {QT : Bool → Hp → Prop} : tYes σ H QT = QT true H := rfl
theorem rd_sl {r : V → Option Int → Option Int → Hp → VK → Prop} {tlo thi : L2.St → Hp → (Option Int → Hp → Prop) → Prop} : tSl r te tlo thi σ H Q = te σ H fun x H1 => tlo σ H1 fun l H2 => thi σ H2 fun u H3 => r x l u H3 Q := rfl
theorem rd_noPart {QO : Option Int → Hp → Prop} : tNoPart σ H QO = QO none H := rfl
theorem rd_part {QO : Option Int → Hp → Prop} : tPart te σ H QO = te σ H fun x H1 => ∃ i, x = .int i ∧ QO (some i) H1 := rfl
theorem rd_slL {x : V} {lo hi : Option Int} : rSlL K x lo hi H Q = ∃ a xs, x = .ref a ∧ SqL K H a xs ∧ ∀ p, H p = none → Q (.ref p) (upd H p (.lst (cutV xs lo hi))) := rfl
end
/-! ### isinstance of a built-in class -/
theorem isi_mk {K : PySem.W.Frag} {x : V} {T t : String} {b : Bool} {H : Hp} {Q : VK} (ty : TyX K H x (.type t)) (e : kitB t T = some b) (q : Q (.bl b) H) : rIsi K [x, .ty T] H Q := ⟨x, .ty T, _, _, b, rfl, .ty T, ty, kit_ty e, q⟩
/-! ### the same with the next turn's word a letter (simp doesn't read it) -/
section
variable {K : PySem.W.Frag} {a : Addr} {xs : List V} {g : TG} {tb : TS} {D : Ends} {σ : L2.St} {H : Hp} {te : TE} {ta : TA} {tt : TT} {vs : List Nat} {Q : VK}
theorem while_w {c : TT} (Pw : L2.St → Hp → Prop) (μ : L2.St → Hp → Nat) (h0 : Pw σ H)
    (hs : ∀ σ H, Pw σ H → ∀ N : L2.St → Hp → Prop, (∀ σ' H', Pw σ' H' → μ σ' H' < μ σ H → N σ' H') →
      ∃ b : Bool, (∀ Q : Bool → Hp → Prop, Q b H → c σ H Q) ∧ (b = true → tb { D with nx := N, ct := N, bk := D.nx } σ H) ∧ (b = false → D.nx σ H)) : tWhile c tb D σ H :=
  while_mk Pw μ h0 fun σ H p => hs σ H p _ fun _ _ h1 h2 => ⟨h1, h2⟩
theorem ForL.w (Pw : Nat → L2.St → Hp → Prop) (h0 : Pw 0 σ H) (hl : ∀ i σ H, i ≤ xs.length → Pw i σ H → SqL K H a xs)
    (hs : ∀ i x σ H, xs[i]? = some x → Pw i σ H → ∀ N : L2.St → Hp → Prop, (∀ σ' H', Pw (i + 1) σ' H' → N σ' H') → g x σ H fun σ2 H2 => tb { D with nx := N, ct := N, bk := D.nx } σ2 H2) (hd : ∀ σ H, Pw xs.length σ H → D.nx σ H) : ForL K a g tb D σ H :=
  ForL.mk Pw h0 hl (fun i x σ H e p => hs i x σ H e p _ fun _ _ h => h) hd
theorem ForT.w (Pw : Nat → L2.St → Hp → Prop) (h0 : Pw 0 σ H) (hl : ∀ i σ H, i ≤ xs.length → Pw i σ H → SqT K H a xs)
    (hs : ∀ i x σ H, xs[i]? = some x → Pw i σ H → ∀ N : L2.St → Hp → Prop, (∀ σ' H', Pw (i + 1) σ' H' → N σ' H') → g x σ H fun σ2 H2 => tb { D with nx := N, ct := N, bk := D.nx } σ2 H2) (hd : ∀ σ H, Pw xs.length σ H → D.nx σ H) : ForT K a g tb D σ H :=
  ForT.mk Pw h0 hl (fun i x σ H e p => hs i x σ H e p _ fun _ _ h => h) hd
theorem ForR.w {lo : Int} {n : Nat} (Pw : Nat → L2.St → Hp → Prop) (h0 : Pw 0 σ H)
    (hs : ∀ i σ H, i < n → Pw i σ H → ∀ N : L2.St → Hp → Prop, (∀ σ' H', Pw (i + 1) σ' H' → N σ' H') → g (.int (lo + i)) σ H fun σ2 H2 => tb { D with nx := N, ct := N, bk := D.nx } σ2 H2) (hd : ∀ σ H, Pw n σ H → D.nx σ H) : ForR lo n g tb D σ H :=
  ForR.mk Pw h0 (fun i σ H e p => hs i σ H e p _ fun _ _ h => h) hd
theorem ForC.w {lo c : Int} {n : Nat} (Pw : Nat → L2.St → Hp → Prop) (h0 : Pw 0 σ H)
    (hs : ∀ i σ H, i < n → Pw i σ H → ∀ N : L2.St → Hp → Prop, (∀ σ' H', Pw (i + 1) σ' H' → N σ' H') → g (.int (lo + (i : Nat) * c)) σ H fun σ2 H2 => tb { D with nx := N, ct := N, bk := D.nx } σ2 H2) (hd : ∀ σ H, Pw n σ H → D.nx σ H) : ForC lo c n g tb D σ H :=
  ForC.mk Pw h0 (fun i σ H e p => hs i σ H e p _ fun _ _ h => h) hd
/-- a comprehension: Pw turn D made heap: the list at D holds made -/
theorem LcL.w (Pw : Nat → Addr → List V → Hp → Prop) (h0 : ∀ D, H D = none → Pw 0 D [] (upd H D (.lst []))) (hl : ∀ D i ys H, i ≤ xs.length → Pw i D ys H → SqL K H a xs)
    (hs : ∀ D i x ys H, xs[i]? = some x → Pw i D ys H → ∀ N : Hp → Prop, (∀ ys' H', Pw (i + 1) D ys' H' → N H') → g x (wipe σ vs) H fun σ2 H2 => wipe σ2 vs = wipe σ vs ∧ tt σ2 H2 fun b H3 =>
      if b = true then te σ2 H3 fun y H4 => ∃ acc, H4 D = some (.lst acc) ∧ acc.length < sizeLine ∧ N (upd H4 D (.lst (acc ++ [y]))) else N H3) (hd : ∀ D ys H', H D = none → Pw xs.length D ys H' → Q (.ref D) H') : LcL K a g tt te vs σ H Q :=
  LcL.mk (xs := xs) (fun i D H => ∃ ys, Pw i D ys H) (fun D n => ⟨[], h0 D n⟩) (fun D i H hi ⟨ys, p⟩ => hl D i ys H hi p) (fun D i x H e ⟨ys, p⟩ => hs D i x ys H e p _ fun ys' H' h => ⟨ys', h⟩) (fun D H' n ⟨ys, p⟩ => hd D ys H' n p)
theorem LcT.w (Pw : Nat → Addr → List V → Hp → Prop) (h0 : ∀ D, H D = none → Pw 0 D [] (upd H D (.lst []))) (hl : ∀ D i ys H, i ≤ xs.length → Pw i D ys H → SqT K H a xs)
    (hs : ∀ D i x ys H, xs[i]? = some x → Pw i D ys H → ∀ N : Hp → Prop, (∀ ys' H', Pw (i + 1) D ys' H' → N H') → g x (wipe σ vs) H fun σ2 H2 => wipe σ2 vs = wipe σ vs ∧ tt σ2 H2 fun b H3 =>
      if b = true then te σ2 H3 fun y H4 => ∃ acc, H4 D = some (.lst acc) ∧ acc.length < sizeLine ∧ N (upd H4 D (.lst (acc ++ [y]))) else N H3) (hd : ∀ D ys H', H D = none → Pw xs.length D ys H' → Q (.ref D) H') : LcT K a g tt te vs σ H Q :=
  LcT.mk (xs := xs) (fun i D H => ∃ ys, Pw i D ys H) (fun D n => ⟨[], h0 D n⟩) (fun D i H hi ⟨ys, p⟩ => hl D i ys H hi p) (fun D i x H e ⟨ys, p⟩ => hs D i x ys H e p _ fun ys' H' h => ⟨ys', h⟩) (fun D H' n ⟨ys, p⟩ => hd D ys H' n p)
theorem LcR.w {lo : Int} {n : Nat} (Pw : Nat → Addr → List V → Hp → Prop) (h0 : ∀ D, H D = none → Pw 0 D [] (upd H D (.lst [])))
    (hs : ∀ D i ys H, i < n → Pw i D ys H → ∀ N : Hp → Prop, (∀ ys' H', Pw (i + 1) D ys' H' → N H') → g (.int (lo + i)) (wipe σ vs) H fun σ2 H2 => wipe σ2 vs = wipe σ vs ∧ tt σ2 H2 fun b H3 =>
      if b = true then te σ2 H3 fun y H4 => ∃ acc, H4 D = some (.lst acc) ∧ acc.length < sizeLine ∧ N (upd H4 D (.lst (acc ++ [y]))) else N H3) (hd : ∀ D ys H', H D = none → Pw n D ys H' → Q (.ref D) H') : LcR lo n g tt te vs σ H Q :=
  LcR.mk (fun i D H => ∃ ys, Pw i D ys H) (fun D n => ⟨[], h0 D n⟩) (fun D i H e ⟨ys, p⟩ => hs D i ys H e p _ fun ys' H' h => ⟨ys', h⟩) (fun D H' n ⟨ys, p⟩ => hd D ys H' n p)
end
theorem rd_max2 {xs : List V} {H : Hp} {Q : VK} : (fun (xs : List V) (H : Hp) (Q : VK) => ∃ i j : Int, xs = [.int i, .int j] ∧ Q (.int (if j > i then j else i)) H) xs H Q = ∃ i j : Int, xs = [.int i, .int j] ∧ Q (.int (if j > i then j else i)) H := rfl
theorem rd_wipe0 {σ : L2.St} : wipe σ [] = σ := rfl
theorem rd_wipe1 {σ : L2.St} {v : Nat} {vs : List Nat} : wipe σ (v :: vs) = (wipe σ vs).set v none := rfl
theorem rd_eqD {K : PySem.W.Frag} {x y : V} {H : Hp} {Q : VK} : rEqD K x y H Q = ∃ d e, Dp K H x d ∧ Dp K H y e ∧ SeqAt.shaped d = true ∧ SeqAt.shaped e = true ∧ Q (.bl (PyData.eqv d e)) H := rfl
theorem rd_neD {K : PySem.W.Frag} {x y : V} {H : Hp} {Q : VK} : rNeD K x y H Q = ∃ d e, Dp K H x d ∧ Dp K H y e ∧ SeqAt.shaped d = true ∧ SeqAt.shaped e = true ∧ Q (.bl (!PyData.eqv d e)) H := rfl
theorem rd_rep {x y : V} {H : Hp} {Q : VK} : rRep x y H Q = ∃ l k xs, x = .ref l ∧ y = .int k ∧ H l = some (.lst xs) ∧ -(2 ^ 63) ≤ k ∧ k < 2 ^ 63 ∧ xs.length * k.toNat ≤ sizeLine ∧ ∀ p, H p = none → Q (.ref p) (upd H p (.lst (List.replicate k.toNat xs).flatten)) := rfl
theorem dp_ints {K : PySem.W.Frag} {H : Hp} : ∀ l : List Int, DpAll K H (l.map V.int) (l.map PyData.int)
  | [] => .nil
  | i :: l => .cons (.int i) (dp_ints l)
theorem dp_strs {K : PySem.W.Frag} {H : Hp} : ∀ l : List Str, DpAll K H (l.map V.str) (l.map PyData.str)
  | [] => .nil
  | i :: l => .cons (.str i) (dp_strs l)
/-! ### powers of any size; tuples made of lists; data -/
def CPowI (i j : Int) : Prop := 0 ≤ j ∧ (Builtin.Int.intBits i : Int) * j ≤ 2 ^ 27
theorem op_powI {X : Cx} : OpR X (binaryOp .Pow) (rI CPowI fun i j => .int (i ^ j.toNat)) := opI fun _ _ _ _ _ _ _ hc q => pow_int hc.1 hc.2 q
theorem bits_le {i : Int} {n : Nat} (h : i.natAbs < 2 ^ n) (h0 : 0 < n) : Builtin.Int.intBits i ≤ n := by
  have a := PySem.Flt.log2_lt_of h0 h
  unfold Builtin.Int.intBits
  split <;> omega
theorem powI {i j : Int} {n : Nat} (h : i.natAbs < 2 ^ n) (h0 : 0 < n) (hj : 0 ≤ j) (hz : (n : Int) * j ≤ 2 ^ 27) : CPowI i j := by
  refine ⟨hj, Int.le_trans (Int.mul_le_mul_of_nonneg_right ?_ hj) hz⟩
  exact Int.ofNat_le.mpr (bits_le h h0)
def rTupOf (K : PySem.W.Frag) : List V → Hp → VK → Prop := fun xs H Q => ∃ p ys, xs = [.ref p] ∧ ((SqL K H p ys ∧ ∀ l, H l = none → Q (.ref l) (upd H l (.tup ys))) ∨ (SqT K H p ys ∧ Q (.ref p) H))
theorem cr_tupOf {X : Cx} : CallR X (.type "tuple") (rTupOf X.K) := call_tuple_of
theorem rd_tupOf {K : PySem.W.Frag} {xs : List V} {H : Hp} {Q : VK} : rTupOf K xs H Q = ∃ p ys, xs = [.ref p] ∧ ((SqL K H p ys ∧ ∀ l, H l = none → Q (.ref l) (upd H l (.tup ys))) ∨ (SqT K H p ys ∧ Q (.ref p) H)) := rfl
def rLenS (K : PySem.W.Frag) : List V → Hp → VK → Prop := fun xs H Q => ∃ x n, xs = [x] ∧ LenV K x H n ∧ Q (.int n) H
theorem cr_lenS {X : Cx} : CallR X (.builtin "len") (rLenS X.K) := call_len
theorem rd_lenS {K : PySem.W.Frag} {xs : List V} {H : Hp} {Q : VK} : rLenS K xs H Q = ∃ x n, xs = [x] ∧ LenV K x H n ∧ Q (.int n) H := rfl
theorem rd_gcd {vs : List V} {H : Hp} {Q : VK} : rGcd vs H Q = ∃ a b : Int, vs = [.int a, .int b] ∧ Q (.int ((Nat.gcd a.natAbs b.natAbs : Nat) : Int)) H := rfl
/-- what holds between two statements -/
theorem seq_cut {t u : TS} {D : Ends} {σ : L2.St} {H : Hp} (Pw : L2.St → Hp → Prop) (h1 : ∀ R : L2.St → Hp → Prop, (∀ σ H, Pw σ H → R σ H) → t { D with nx := R } σ H) (h2 : ∀ σ H, Pw σ H → u D σ H) : tSeq t u D σ H := h1 (u D) h2
theorem rd_any {K : PySem.W.Frag} {vs : List V} {H : Hp} {Q : VK} : rAny K vs H Q = ∃ (a : Addr) (bs : List Bool), vs = [V.ref a] ∧ SqL K H a (bs.map V.bl) ∧ Q (.bl (bs.any id)) H := rfl
theorem rd_all {K : PySem.W.Frag} {vs : List V} {H : Hp} {Q : VK} : rAll K vs H Q = ∃ (a : Addr) (bs : List Bool), vs = [V.ref a] ∧ SqL K H a (bs.map V.bl) ∧ Q (.bl (bs.all id)) H := rfl
theorem rd_ext {K : PySem.W.Frag} {to : TE} {t : TA} {σ : L2.St} {H : Hp} {Q : VK} : tBM K "list" rExtend to t σ H Q = to σ H fun x H1 => tyV K "list" x H1 ∧ t σ H1 fun xs H2 => ∃ l b ys zs, x = .ref l ∧ xs = [.ref b] ∧ H2 l = some (.lst ys) ∧ H2 b = some (.lst zs) ∧ ys.length + zs.length ≤ sizeLine ∧ Q .non (upd H2 l (.lst (ys ++ zs))) := rfl
theorem rd_glst {K : PySem.W.Frag} {n : Nat} {g : TGs} {v : V} {σ : L2.St} {H : Hp} {QS : L2.St → Hp → Prop} : gLst K n g v σ H QS = ∃ a xs, v = .ref a ∧ SqL K H a xs ∧ xs.length = n ∧ g xs σ H QS := rfl
theorem ix_listK {X : Cx} {K : PySem.W.Frag} (h : X.K = K) : IxR X (rIxL K) := by
  subst h
  exact ix_list
theorem ix_tupK {X : Cx} {K : PySem.W.Frag} (h : X.K = K) : IxR X (rIxT K) := by
  subst h
  exact ix_tup
end CB/-! sorted of a list of triples of ints, any number of them -/
namespace CB
open PySem PyProof.Rows Srt SrtO L2
abbrev T3 := Int × Int × Int
def lexT (p q : T3) : Bool := if p.1 = q.1 then lexB p.2 q.2 else decide (p.1 < q.1)
theorem lexT_iff {p q : T3} : lexT p q = true ↔ p.1 < q.1 ∨ (p.1 = q.1 ∧ (p.2.1 < q.2.1 ∨ (p.2.1 = q.2.1 ∧ p.2.2 < q.2.2))) := by
  unfold lexT
  by_cases e : p.1 = q.1
  · rw [if_pos e, lexB_iff]
    omega
  · rw [if_neg e, decide_eq_true_eq]
    omega
theorem lexT_no {p q : T3} : lexT p q = false ↔ ¬ (p.1 < q.1 ∨ (p.1 = q.1 ∧ (p.2.1 < q.2.1 ∨ (p.2.1 = q.2.1 ∧ p.2.2 < q.2.2)))) := by
  rw [← lexT_iff]
  cases lexT p q <;> simp
theorem swo_T {α : Type} (k : α → T3) : Swo fun v u => lexT (k v) (k u) := by
  refine ⟨fun x y h => ?_, fun x y z h1 h2 => ?_⟩
  · have a := lexT_iff.mp h
    refine lexT_no.mpr ?_
    omega
  · have a := lexT_no.mp h1
    have b := lexT_no.mp h2
    refine lexT_no.mpr ?_
    omega
theorem lexT_eq {p q : T3} (h1 : lexT p q = false) (h2 : lexT q p = false) : p = q := by
  have a := lexT_no.mp h1
  have b := lexT_no.mp h2
  obtain ⟨p1, p2, p3⟩ := p
  obtain ⟨q1, q2, q3⟩ := q
  simp only at a b
  have e1 : p1 = q1 := by omega
  have e2 : p2 = q2 := by omega
  have e3 : p3 = q3 := by omega
  rw [e1, e2, e3]
/-- two sorted rearrangements of triples are one -/
theorem srtT_uniq : ∀ {l m : List T3}, l.Pairwise (fun p q => lexT q p = false) → m.Pairwise (fun p q => lexT q p = false) → l.Perm m → l = m := fun {l m} h1 h2 h => by
  refine List.Perm.eq_of_pairwise (le := fun p q => lexT q p = false) (fun a b _ _ x y => lexT_eq y x) h1 h2 h
section
variable {prog : Program} {w : World} {A : Around} {E : Value → Shared → Prop} {s : Shared}
def IsTrip (h : Heap) (v : Value) (k : T3) : Prop := ∃ a o t u r n, v = .ref a ∧ h.get? a = some o ∧ o.cls = .type "tuple" ∧ o.data = .seq #[.int k.1 t, .int k.2.1 u, .int k.2.2 r] n
theorem IsTrip.keeps {h h' : Heap} {v : Value} {k : T3} (p : IsTrip h v k) (kk : ∀ b o, h.get? b = some o → o.cls = .type "tuple" → h'.get? b = some o) : IsTrip h' v k := by
  obtain ⟨a, o, t, u, r, n, e, ho, hc, hd⟩ := p
  exact ⟨a, o, t, u, r, n, e, kk _ _ ho hc, hc, hd⟩
theorem firstsT {h : Heap} : ∀ {vs : List Value}, (∀ v ∈ vs, ∃ k, IsTrip h v k) → ∃ fs : List Value, PySem.W.KatTups h vs fs ∧ fs.length = vs.length ∧ ∀ f ∈ fs, ∃ x t, f = Value.int x t
  | [], _ => ⟨[], PySem.W.KatTups.nil, rfl, fun _ hm => by simp at hm⟩
  | v :: vs, hp => by
    obtain ⟨fs, h1, h2, h3⟩ := firstsT (vs := vs) fun v' hm => hp v' (List.mem_cons_of_mem _ hm)
    obtain ⟨k, a, o, t, u, r, n, e, ho, hc, hd⟩ := hp v (List.mem_cons_self ..)
    subst e
    refine ⟨.int k.1 t :: fs, PySem.W.KatTups.cons ho hc hd rfl h1, by rw [List.length_cons, List.length_cons, h2], fun f hm => ?_⟩
    rcases List.mem_cons.mp hm with rfl | hm
    · exact ⟨k.1, t, rfl⟩
    · exact h3 f hm
theorem trip_cmp {vs : List Value} {k : Value → T3} (hp : ∀ v ∈ vs, IsTrip s.heap v (k v)) : SrtO.Cmp prog w A s (tuples' true) (fun p => p.1 ∈ vs) (lt2 fun v u => lexT (k v) (k u)) := by
  intro p q hm hm'
  have h1 := hp _ hm
  have h2 := hp _ hm'
  show wpAny (model prog w) A (keyLt' (tuples' true) p.1 q.1) (fun r s' => s' = s ∧ r = lexT (k p.1) (k q.1)) (fun _ _ => False) s
  generalize k p.1 = kp at h1 ⊢
  generalize k q.1 = kq at h2 ⊢
  obtain ⟨x, y, z⟩ := kp
  obtain ⟨x', y', z'⟩ := kq
  obtain ⟨a, o, t, u, r, n, e, ho, hc, hd⟩ := h1
  obtain ⟨a', o', t', u', r', n', e', ho', hc', hd'⟩ := h2
  rw [e, e']
  simp only at hd hd'
  refine PySem.W.kat_lt ho hd ho' hd' ?_
  show PySem.W.KatLex prog w A true (decide (3 < 3)) _ [(.int x t, .int x' t'), (.int y u, .int y' u'), (.int z r, .int z' r')] 0 s
  refine PySem.W.kat_cons (SeqAt.EqAt.int_int x t x' t' prog w _ _ ?_)
  refine PySem.W.kat_go (fun e1 => ?_) (fun e1 => ?_)
  · have ex : x = x' := by simpa using e1
    refine PySem.W.kat_yes (PySem.W.kat_cons (SeqAt.EqAt.int_int y u y' u' prog w _ _ ?_))
    refine PySem.W.kat_go (fun e2 => ?_) (fun e2 => ?_)
    · have ey : y = y' := by simpa using e2
      refine PySem.W.kat_yes (PySem.W.kat_cons (SeqAt.EqAt.int_int z r z' r' prog w _ _ ?_))
      refine PySem.W.kat_go (fun e3 => ?_) (fun e3 => ?_)
      · have ez : z = z' := by simpa using e3
        have e4 : lexT (x, y, z) (x', y', z') = false := lexT_no.mpr (by simp only; omega)
        exact PySem.W.kat_yes (PySem.W.kat_nil ⟨rfl, e4.symm⟩)
      · have e4 : lexT (x, y, z) (x', y', z') = decide (z < z') := by
          unfold lexT lexB
          simp only
          rw [if_pos ex, if_pos ey]
        refine PySem.W.kat_no (PySem.W.kat_one _ _ (PyProof.Rows.lt_int ?_))
        exact (show s = s ∧ decide (z < z') = lexT (x, y, z) (x', y', z') from ⟨rfl, e4.symm⟩)
    · have ey : ¬ y = y' := by simpa using e2
      have e4 : lexT (x, y, z) (x', y', z') = decide (y < y') := by
        unfold lexT lexB
        simp only
        rw [if_pos ex, if_neg ey]
      refine PySem.W.kat_no (PySem.W.kat_one _ _ (PyProof.Rows.lt_int ?_))
      exact (show s = s ∧ decide (y < y') = lexT (x, y, z) (x', y', z') from ⟨rfl, e4.symm⟩)
  · have ex : ¬ x = x' := by simpa using e1
    have e3 : lexT (x, y, z) (x', y', z') = decide (x < x') := by
      unfold lexT
      simp only
      rw [if_neg ex]
    exact PySem.W.kat_no (oneLt_int ⟨rfl, e3.symm⟩)
theorem trips_sortableO {a : Addr} {vs : List Value} {k : Value → T3} (h0 : 0 < vs.length) (hp : ∀ v ∈ vs, IsTrip s.heap v (k v)) (ha : ∀ o, s.heap.get? a = some o → o.cls ≠ .type "tuple") : SortableO prog w A s a vs fun v u => lexT (k v) (k u) := by
  intro h' keep
  have hp' : ∀ v ∈ vs, IsTrip h' v (k v) := fun v hm => (hp v hm).keeps fun b o e c => keep b o (fun z => by subst z; exact ha o e c) e
  obtain ⟨fs, h1, h2, h3⟩ := firstsT fun v hm => ⟨_, hp' v hm⟩
  refine ⟨tuples' true, fun Q E hq => ?_, trip_cmp hp'⟩
  refine PySem.W.kat_kind (T := .type "int") h1 (by omega) (fun f hm => ?_) (by rfl) ?_
  · obtain ⟨x, t, rfl⟩ := h3 f hm
    exact PySem.W.Looks.now
  · have e : (Value.type "int" != Value.type "tuple") = true := by first | decide +kernel | rfl | decide
    rw [e]
    exact hq
theorem sorted_tripsO {l : Addr} {vs : List Value} {k : Value → T3} {Q : Value → Shared → Prop} (hl : s.heap.IsList l vs.toArray) (hz : vs.length ≤ sizeLine) (hp : ∀ v ∈ vs, IsTrip s.heap v (k v))
    (h : ∀ (h' : Heap) (d : Addr) (out : List Value), Srtd (fun v u => lexT (k v) (k u)) out → Stb (fun v u => lexT (k v) (k u)) out vs → (∀ b o, s.heap.get? b = some o → h'.get? b = some o) → s.heap.objs.size ≤ d → (∃ n, h'.get? d = some (seqObj "list" out.toArray n)) → Q (.ref d) { s with heap := h' }) :
    wpAny (model prog w) A (call (.builtin "sorted") [.ref l]) Q E s := by
  refine sorted_ord (swo_T k) hl hz (fun h2 h₁ a ha kk => ?_) fun out hs hb => ?_
  · refine trips_sortableO (s := { s with heap := h₁ }) (by omega) (fun v hm => (hp v hm).keeps fun b o e _ => (kk b o e).2) fun o e => ?_
    have e' : some o = some (seqObj "list" vs.toArray 0) := e.symm.trans ha
    cases e'
    intro c
    exact absurd (Value.type.inj c) (by decide)
  · exact h _ _ out hs hb (fun b o e => sortedAll_old e) (Nat.le_succ _) (sortedAll_at s.heap vs out.toArray)
end
end CB
namespace CB
open PySem PySem.Spec PyProof.Rows L2
/-- the triple that stands at x -/
def kT (H : Hp) : V → T3
  | .ref r => match H r with
    | some (.tup [.int a, .int b, .int c]) => (a, b, c)
    | _ => (0, 0, 0)
  | _ => (0, 0, 0)
def IsT3 (H : Hp) (x : V) : Prop := ∃ r a b c, x = V.ref r ∧ H r = some (.tup [.int a, .int b, .int c])
theorem IsT3.at {H : Hp} {x : V} (h : IsT3 H x) : ∃ r, x = V.ref r ∧ H r = some (.tup [.int (kT H x).1, .int (kT H x).2.1, .int (kT H x).2.2]) := by
  obtain ⟨r, a, b, c, rfl, e⟩ := h
  refine ⟨r, rfl, ?_⟩
  have q : kT H (V.ref r) = (a, b, c) := by
    show (match H r with
      | some (.tup [.int a, .int b, .int c]) => (a, b, c)
      | _ => (0, 0, 0)) = _
    rw [e]
  rw [q, e]
/-- the list of triples that stand at the xs -/
def Trs (H : Hp) (xs : List V) (ts : List T3) : Prop := (∀ x ∈ xs, IsT3 H x) ∧ ts = xs.map (kT H)
theorem kT_same {H H' : Hp} (s : Same H H') {x : V} (h : IsT3 H x) : kT H' x = kT H x ∧ IsT3 H' x := by
  obtain ⟨r, a, b, c, rfl, e⟩ := h
  have e' := s _ _ e
  refine ⟨?_, r, a, b, c, rfl, e'⟩
  show (match H' r with
      | some (.tup [.int a, .int b, .int c]) => (a, b, c)
      | _ => (0, 0, 0)) = (match H r with
      | some (.tup [.int a, .int b, .int c]) => (a, b, c)
      | _ => (0, 0, 0))
  rw [e, e']
theorem Trs.same {H H' : Hp} {xs : List V} {ts : List T3} (s : Same H H') (h : Trs H xs ts) : Trs H' xs ts := by
  obtain ⟨h1, rfl⟩ := h
  exact ⟨fun x m => (kT_same s (h1 x m)).2, List.map_congr_left fun x m => (kT_same s (h1 x m)).1.symm⟩
theorem Trs.keep {H H' : Hp} {xs : List V} {ts : List T3} (s : ∀ r a b c, H r = some (.tup [.int a, .int b, .int c]) → H' r = some (.tup [.int a, .int b, .int c])) (h : Trs H xs ts) : Trs H' xs ts := by
  obtain ⟨h1, rfl⟩ := h
  refine ⟨fun x m => ?_, List.map_congr_left fun x m => ?_⟩
  · obtain ⟨r, a, b, c, e, q⟩ := h1 x m
    exact ⟨r, a, b, c, e, s _ _ _ _ q⟩
  · obtain ⟨r, a, b, c, rfl, q⟩ := h1 x m
    show (match H r with
      | some (.tup [.int a, .int b, .int c]) => (a, b, c)
      | _ => (0, 0, 0)) = (match H' r with
      | some (.tup [.int a, .int b, .int c]) => (a, b, c)
      | _ => (0, 0, 0))
    rw [q, s _ _ _ _ q]
theorem same_at {H H1 : Hp} {f : Addr} {o : HO} (s : Same H H1) (n : H f = none) : Same H (upd H1 f o) := fun b x e => by
  rw [upd_ne (ne_of_none e n)]
  exact s b x e
theorem Trs.updL {H : Hp} {f : Addr} {l : List V} {o : HO} {xs : List V} {ts : List T3} (h : Trs H xs ts) (e : H f = some (.lst l)) : Trs (upd H f o) xs ts :=
  h.keep fun r a b c q => by rw [upd_ne (ne_of q e (by intro z; cases z))]; exact q
theorem Trs.updN {H : Hp} {f : Addr} {o : HO} {xs : List V} {ts : List T3} (h : Trs H xs ts) (e : H f = none) : Trs (upd H f o) xs ts := h.same (same_upd e)
theorem Trs.nil {H : Hp} : Trs H [] [] := ⟨fun x m => by simp at m, rfl⟩
theorem Trs.snoc {H : Hp} {xs : List V} {ts : List T3} {r : Addr} {a b c : Int} (h : Trs H xs ts) (e : H r = some (.tup [.int a, .int b, .int c])) : Trs H (xs ++ [.ref r]) (ts ++ [(a, b, c)]) := by
  obtain ⟨h1, rfl⟩ := h
  refine ⟨fun x m => ?_, ?_⟩
  · rcases List.mem_append.mp m with m | m
    · exact h1 x m
    · rw [List.mem_singleton.mp m]
      exact ⟨r, a, b, c, rfl, e⟩
  · rw [List.map_append]
    show _ = _ ++ [kT H (.ref r)]
    have q : kT H (V.ref r) = (a, b, c) := by
      show (match H r with
        | some (.tup [.int a, .int b, .int c]) => (a, b, c)
        | _ => (0, 0, 0)) = _
      rw [e]
    rw [q]
theorem Trs.get {H : Hp} {xs : List V} {ts : List T3} {i : Nat} {x : V} (h : Trs H xs ts) (e : xs[i]? = some x) : ∃ r a b c, x = .ref r ∧ H r = some (.tup [.int a, .int b, .int c]) ∧ ts[i]? = some (a, b, c) := by
  obtain ⟨h1, rfl⟩ := h
  obtain ⟨r, e1, e2⟩ := (h1 x (List.mem_of_getElem? e)).at
  exact ⟨r, _, _, _, e1, e2, by rw [List.getElem?_map, e]; rfl⟩
theorem Trs.len {H : Hp} {xs : List V} {ts : List T3} (h : Trs H xs ts) : ts.length = xs.length := by
  rw [h.2, List.length_map]
/-- sorted(xs), xs a list of triples of ints -/
def rSorted3 (K : PySem.W.Frag) : List V → Hp → VK → Prop := fun vs H Q => ∃ (a : Addr) (xs : List V) (ts : List T3), vs = [V.ref a] ∧ SqL K H a xs ∧ Trs H xs ts ∧
  ∀ ys us p, Trs H ys us → us.Pairwise (fun p q => lexT q p = false) → us.Perm ts → H p = none → Q (.ref p) (upd H p (.lst ys))
section
variable {X : Cx}
theorem cr_sorted3 : CallR X (.builtin "sorted") (rSorted3 X.K) := by
  intro pins s σ H vs us Q I r h
  obtain ⟨a, xs, ts, rfl, hs, ⟨hx, rfl⟩, q⟩ := h
  obtain ⟨its, rv, hl, hz⟩ := I.list hs
  obtain ⟨u, rfl, ru⟩ := vals1 r
  obtain rfl : u = Value.ref a := ru
  obtain ⟨e1, e2⟩ := refs_back rv fun x m => by
    obtain ⟨t, e, _⟩ := (hx x m).at
    exact ⟨t, e⟩
  refine sorted_tripsO (k := fun u => kT H (backV u)) hl.isList (by rw [← rv.length]; exact hz) (fun v hv => ?_) fun h' d out h1 h2 kp hd hn => ?_
  · obtain ⟨t, rfl⟩ := e2 v hv
    have hm : V.ref t ∈ xs := by rw [e1]; exact List.mem_map.mpr ⟨_, hv, rfl⟩
    obtain ⟨t', e, ht⟩ := (hx _ hm).at
    cases e
    obtain ⟨_, its2, r2, o, ho, hc, n, hd⟩ := I.hok _ _ ht
    cases r2 with
    | cons ra r2 =>
      cases r2 with
      | cons rb r2 =>
        cases r2 with
        | cons rc r2 =>
          cases r2
          obtain ⟨t1, rfl⟩ := ra
          obtain ⟨t2, rfl⟩ := rb
          obtain ⟨t3, rfl⟩ := rc
          exact ⟨t, o, t1, t2, t3, n, rfl, ho, hc, hd⟩
  · have h3 : ∀ u ∈ out, ∃ a, u = Value.ref a := fun u hu => e2 u (h2.perm.mem_iff.mp hu)
    obtain ⟨n, hn⟩ := hn
    have hp : (out.map backV).Perm xs := by
      rw [e1]
      exact h2.perm.map backV
    have hT : ∀ x ∈ out.map backV, IsT3 H x := fun x m => hx x (hp.mem_iff.mp m)
    have hS : ((out.map backV).map (kT H)).Pairwise (fun p q => lexT q p = false) := by
      rw [List.pairwise_map, List.pairwise_map]
      exact h1
    refine ⟨.ref d, upd H d (.lst (out.map backV)), I.laid (t' := s.toks) kp hd ⟨?_, out, n, vals_back h3, hn⟩, rfl, q _ _ d ⟨hT, rfl⟩ hS (hp.map (kT H)) (I.hok.fresh hd)⟩
    rw [hp.length_eq]
    exact hz
end
section
variable {H : Hp} {Q : VK} {K : PySem.W.Frag} {vs : List V}
theorem rd_sorted3 : rSorted3 K vs H Q = ∃ (a : Addr) (xs : List V) (ts : List T3), vs = [V.ref a] ∧ SqL K H a xs ∧ Trs H xs ts ∧
  ∀ ys us p, Trs H ys us → us.Pairwise (fun p q => lexT q p = false) → us.Perm ts → H p = none → Q (.ref p) (upd H p (.lst ys)) := rfl
end
/-! ### triples as data -/
def dT3 (t : T3) : PyData := .tuple [.int t.1, .int t.2.1, .int t.2.2]
theorem dp_t3 {K : PySem.W.Frag} {H : Hp} {x : V} (h : IsT3 H x) : Dp K H x (dT3 (kT H x)) := by
  obtain ⟨r, rfl, e⟩ := h.at
  exact .tup (SqT.of e) (.cons (.int _) (.cons (.int _) (.cons (.int _) .nil)))
theorem dp_trs {K : PySem.W.Frag} {H : Hp} : ∀ {xs : List V} {ts : List T3}, Trs H xs ts → DpAll K H xs (ts.map dT3) := fun {xs ts} h => by
  obtain ⟨h1, rfl⟩ := h
  induction xs with
  | nil => exact .nil
  | cons x xs ih => exact .cons (dp_t3 (h1 x List.mem_cons_self)) (ih fun y m => h1 y (List.mem_cons_of_mem _ m))
theorem lay_t3 : ∀ ts : List T3, PyData.canLayAll0 (ts.map dT3) = true
  | [] => rfl
  | t :: ts => by
    show (PyData.canLay0 (dT3 t) && PyData.canLayAll0 (ts.map dT3)) = true
    rw [lay_t3 ts]
    rfl
theorem depth_t3 : ∀ ts : List T3, PyData.depthAll (ts.map dT3) ≤ 3
  | [] => by decide
  | t :: ts => by
    have := depth_t3 ts
    show max (PyData.depth (dT3 t)) (PyData.depthAll (ts.map dT3)) ≤ 3
    have e : PyData.depth (dT3 t) = 1 := rfl
    omega
theorem shaped_t3 (ts : List T3) : SeqAt.shaped (.tuple (ts.map dT3)) = true := by
  unfold SeqAt.shaped
  have a : PyData.canLay0 (.tuple (ts.map dT3)) = true := lay_t3 ts
  have b : PyData.depth (.tuple (ts.map dT3)) ≤ 64 := by
    have := depth_t3 ts
    show PyData.depthAll (ts.map dT3) + 1 ≤ 64
    omega
  rw [a, decide_eq_true b]
  rfl
end CB
/-! try with several clauses, each with a name or without -/
namespace CB
open PySem PySem.Spec PyProof.Rows L2
abbrev Cl := Value × Option Nat × (Addr → Value → Option Addr → TS)
def endA (i : Option Nat) (D : Ends) : Ends := match i with
  | none => D
  | some i => { nx := fun p q => D.nx (p.set i none) q, rt := D.rt, bk := fun p q => D.bk (p.set i none) q, ct := fun p q => D.ct (p.set i none) q }
def setA (i : Option Nat) (p : L2.St) (a : Addr) : L2.St := match i with
  | none => p
  | some i => p.set i (some (.ref a))
def wA (K : PySem.W.Frag) (Wo : WX) (D : Ends) : List Cl → WX
  | [] => Wo
  | (c, i, ts) :: r => fun cls d p H => ∃ b, PySem.W.exmOne K cls c = some b ∧ (b = true → ∀ a, H a = none → ts a cls d (endA i D) (setA i p a) H) ∧ (b = false → wA K Wo D r cls d p H)
/-- the clauses of the text -/
inductive HdA (X : Cx) : List ExceptHandler → List Cl → Prop
  | nil : HdA X [] []
  | bare {x : Str} {c : Value} {ts : Addr → Value → Option Addr → TS} {b1 : Stmt} {su : List Stmt} {np pp : Pos} {hs : List ExceptHandler} {l : List Cl} (hc : Names X x c)
      (hw : ∀ (a : Addr) (o : Obj) (cls : Value) (d : Option Addr) (pn : List (Addr × Obj)), Zc cls d o → (∃ vs, o.data = .fields vs) → PSs (X.suite a ((a, o) :: pn)) (b1 :: su) (ts a cls d)) (r : HdA X hs l) :
      HdA X (.ExceptHandler (some (.Name x np)) none (b1 :: su) pp :: hs) ((c, none, ts) :: l)
  | named {x n : Str} {c : Value} {i : Nat} {ts : Addr → Value → Option Addr → TS} {b1 : Stmt} {su : List Stmt} {np pp : Pos} {hs : List ExceptHandler} {l : List Cl} (hc : Names X x c) (hi : X.N[i]? = some n) (hn : X.env.kindOf n = some .local)
      (hw : ∀ (a : Addr) (o : Obj) (cls : Value) (d : Option Addr) (pn : List (Addr × Obj)), Zc cls d o → (∃ vs, o.data = .fields vs) → PSs (X.suite a ((a, o) :: pn)) (b1 :: su) (ts a cls d)) (r : HdA X hs l) :
      HdA X (.ExceptHandler (some (.Name x np)) (some n) (b1 :: su) pp :: hs) ((c, some i, ts) :: l)
section
variable {X : Cx} {body : List Stmt} {h1 : ExceptHandler} {hs : List ExceptHandler} {l : List Cl} {pos : Pos} {tb : WX → TS} {Wo : WX}
theorem ps_tryA (hst : X.stack = X.env :: X.outer) (hf : X.env.frame = some X.env.locals) (hN : X.N.Nodup) (tk : Takes X Wo)
    (hb : ∀ (W : WX) (pn : List (Addr × Obj)) (xe : Value → Shared → Prop), Takes (X.tr pn xe) W → PassesOwn (model X.prog X.w) X.A X.env xe → PSs (X.tr pn xe) body (tb W))
    (hh : HdA X (h1 :: hs) l) : PS X (.Try body (h1 :: hs) [] [] pos) (fun D p H => tb (wA X.K Wo D l) D p H) := by
  refine ⟨fun pins s p H D I hgo => ?_⟩
  have ok := I.ok
  have frm : X.A.frames = some (X.env :: X.outer) := by rw [ok.frames, hst]
  refine wpAny_Try_except (wpAny_mono ((hb (wA X.K Wo D l) (X.pn ++ pins) (fun e s₁ => wpAny (model X.prog X.w) X.A (noteFrame e X.env) (fun _ s₂ => wpAny (model X.prog X.w) X.A (setFlight e none) (fun _ s₃ => wpAny (model X.prog X.w) X.A (handleBy e X.env (h1 :: hs)) (SP X pins D) X.xe s₃) X.xe s₂) X.xe s₁)
    (fun u s' xx => ?_) PassesOwn.looking).run [] s p H D (I.toTry _) hgo) (fun f s1 hsp => ?_) (fun e s1 he => he))
  · obtain ⟨a, B, sI, pins', p', H', cls, d, rfl, Jt, nb, up, sky, na, os, ag, wish⟩ := xx
    have J : Inv X pins p' H' sI := Jt.ofTry ok
    have skyB : Sky B (X.env :: X.outer) a (Zc cls d) X.env.locals s'.heap := by rw [← hst]; exact sky
    show wpAny (model X.prog X.w) X.A (noteFrame (.ref a) X.env) _ _ _
    refine Sky.land Zc.steady frm hf skyB fun hp3 fl3 up3 => ?_
    have J3 : Inv X pins p' H' { s' with heap := hp3 } := J.landed nb fl3.1 (up.trans up3) os ag
    obtain ⟨o3, v3, g3, z3, d3⟩ := fl3.there
    have out : ∀ {hp : Heap} {o : Obj} {vs : Array Value}, hp.FunFrames B (X.env :: X.outer) → hp.get? a = some o → o.data = .fields vs → a ∉ frs (X.env :: X.outer) := fun {hp o vs} ff e dd hm => by
      obtain ⟨_, o', e', hnf⟩ := ff.mem hm; rw [e] at e'; cases e'; exact hnf _ dd
    have nfr := out fl3.2.2.1 g3 d3
    have nL : a ≠ X.env.locals := fun z => nfr (List.mem_filterMap.mpr ⟨X.env, List.mem_cons_self, by rw [hf, z]⟩)
    have nF : a ∉ X.fs := fun hm => by obtain ⟨e, he, q⟩ := List.mem_filterMap.mp hm; exact nfr (List.mem_filterMap.mpr ⟨e, List.mem_cons_of_mem _ he, q⟩)
    have S3 := J3.suite g3 d3 na nL nF
    have LT : PySem.W.Looks (model X.prog X.w) hp3 (typeOf (.ref a)) cls := fun A Q E s k q => wpAny_typeOf_ref (k _ _ g3) (by rw [z3.1]; exact q)
    have test : ∀ {x : Str} {np : Pos} {c : Value} (hc : Names X x c) {Q : Value → Shared → Prop} {E : Value → Shared → Prop}, Q c { s' with heap := hp3 } → wpAny (model X.prog X.w) (X.A.mark (some (.ref a))) (eval (.Name x np) X.env) Q E { s' with heap := hp3 } := fun {x np c} hc {Q E} q => by
      obtain ⟨hg, hdb, hm | ⟨hm, hv, hnn⟩⟩ := hc
      · exact ld_glob (X := X.suite a ((a, o3) :: (X.pn ++ pins))) S3 hg hm q hdb
      · exact ld_blt (X := X.suite a ((a, o3) :: (X.pn ++ pins))) S3 hg hm hv q hnn hdb
    have go : ∀ {hs' : List ExceptHandler} {l' : List Cl}, HdA X hs' l' → wA X.K Wo D l' cls d p' H' → wpAny (model X.prog X.w) X.A (handleBy (.ref a) X.env hs') (SP X pins D) X.xe { s' with heap := hp3 } := by
      intro hs' l' hk
      induction hk with
      | nil =>
        intro w
        refine wpAny_handleBy_nil ?_
        obtain ⟨k1, k2, k3, oe, vs, T, oT, ts', he, hz, hd, h1', hr⟩ := id fl3
        unfold PySem.passOn
        refine wpAny_bind (wpAny_field he hd h1' ?_)
        rw [if_neg (show ¬ ((Value.ref T == Value.none) = true) from by simp)]
        have fin : wpAny (model X.prog X.w) X.A (setFlight (.ref a) X.env.frame) (fun _ s4 => wpAny (model X.prog X.w) X.A (throw (.ref a) : Sem Flow) (SP X pins D) X.xe s4) X.xe { s' with heap := hp3 } := by
          rw [hf]
          refine HandSPX.setFlight_upZ fl3 fun h4 hh4 up4 => wpAny_throw (tk _ _ ?_)
          exact ⟨a, B, sI, pins, p', H', cls, d, rfl, J, nb, (up.trans up3).trans up4, .inr (.inr (by rw [hst]; exact hh4)), na, os, ag, w⟩
        first | exact wpAny_bind (wpAny_pure (wpAny_bind fin)) | exact wpAny_bind fin
      | @bare x c ts b1 su np pp hs2 l2 hc hw r ih =>
        intro w
        obtain ⟨b, hb1, hyes, hno⟩ := w
        refine wpAny_handleBy_cons (codeAny_handlers_test ?_) (by intro q; cases q)
        have LM := PySem.W.exm_one (M := model X.prog X.w) (J3.kIn) LT hb1
        refine test hc (LM.here ?_)
        cases b with
        | true =>
          refine codeAny_handlers_suite (HandSPX.lands_againZ fl3 fun h4 fl4 up4 => ?_)
          have J4 : Inv X pins p' H' { s' with heap := h4 } := J.landed nb fl4.1 ((up.trans up3).trans up4) os ag
          obtain ⟨o4, v4, g4, z4, d4⟩ := fl4.there
          have S4 := J4.suite g4 d4 na nL nF
          refine wpAny_mono ((hw a o4 cls d (X.pn ++ pins) z4 ⟨_, d4⟩).run [] _ _ H' _ S4 (hyes rfl a na)) (fun f s6 hsp => ?_) (fun _ _ z => False.elim z)
          cases f with
          | ret u => obtain ⟨v6, p6, H6, S6, r6, q6⟩ := hsp; exact ⟨_, _, _, S6.unsuite ok, r6, q6⟩
          | _ => obtain ⟨p6, H6, S6, q6⟩ := hsp; exact ⟨_, _, S6.unsuite ok, q6⟩
        | false => exact ih (hno rfl)
      | @named x n c i ts b1 su np pp hs2 l2 hc hi hn hw r ih =>
        intro w
        obtain ⟨b, hb1, hyes, hno⟩ := w
        refine wpAny_handleBy_cons (codeAny_handlers_test ?_) (by intro q; cases q)
        have LM := PySem.W.exm_one (M := model X.prog X.w) (J3.kIn) LT hb1
        refine test hc (LM.here ?_)
        cases b with
        | true =>
          refine codeAny_handlers_suite_as (HandSPX.lands_againZ fl3 fun h4 fl4 up4 => ?_)
          have J4 : Inv X pins p' H' { s' with heap := h4 } := J.landed nb fl4.1 ((up.trans up3).trans up4) os ag
          obtain ⟨o4, v4, g4, z4, d4⟩ := fl4.there
          have S4 := J4.suite g4 d4 na nL nF
          refine store_ok (X := X.suite a ((a, o4) :: (X.pn ++ pins))) (v := .ref a) S4 hN hi (.inl hn) rfl (fun s5 S5 => ?_) (.inr hn)
          refine wpAny_mono ((hw a o4 cls d (X.pn ++ pins) z4 ⟨_, d4⟩).run [] s5 _ H' _ S5 (hyes rfl a na)) (fun f s6 hsp => ?_) (fun _ _ z => False.elim z)
          have gone : ∀ {p6 : L2.St} {H6 : Hp} {Q : Shared → Prop}, Inv (X.suite a ((a, o4) :: (X.pn ++ pins))) [] p6 H6 s6 → (∀ s7, Inv X pins (p6.set i none) H6 s7 → Q s7) →
              wpAny (model X.prog X.w) X.A (do bindName X.env n .none; unbindBehindTheSuite X.env n pp) (fun _ s7 => Q s7) X.xe s6 := fun {p6 H6 Q} S6 hq => gone_ok (S6.unsuite ok) hN hi hn hq
          cases f with
          | ret u => obtain ⟨v6, p6, H6, S6, r6, q6⟩ := hsp; exact gone S6 fun s7 J7 => ⟨_, _, _, J7, r6, q6⟩
          | next => obtain ⟨p6, H6, S6, q6⟩ := hsp; exact gone S6 fun s7 J7 => ⟨_, _, J7, q6⟩
          | brk => obtain ⟨p6, H6, S6, q6⟩ := hsp; exact gone S6 fun s7 J7 => ⟨_, _, J7, q6⟩
          | cont => obtain ⟨p6, H6, S6, q6⟩ := hsp; exact gone S6 fun s7 J7 => ⟨_, _, J7, q6⟩
        | false => exact ih (hno rfl)
    exact go hh wish
  · cases f with
    | ret u => obtain ⟨v, p', H', J', r, q⟩ := hsp; exact ⟨v, p', H', J'.ofTry ok, r, q⟩
    | next => obtain ⟨p', H', J', q⟩ := hsp; exact wpAny_execs_nil ⟨p', H', J'.ofTry ok, q⟩
    | brk => obtain ⟨p', H', J', q⟩ := hsp; exact ⟨p', H', J'.ofTry ok, q⟩
    | cont => obtain ⟨p', H', J', q⟩ := hsp; exact ⟨p', H', J'.ofTry ok, q⟩
end
end CB
/-! the program's errors: Malformed (no own __init__), Refused (with its reason) -/
namespace CB
open PySem PySem.Spec PyProof.Rows L2
structure CalX (P : Program) (w : World) (K : PySem.W.Frag) (mg : Str → Option Value) (base : Heap) (x : Str) (k : Nat) (ps : List Str) (sp : Sp) : Prop where
  ok : ∃ f fd, FnOk P w K mg base (L2.CX P w) k f fd ps sp ∧ mg x = some (.ref f) ∧ PySem.W.keepIn K (.ref f) = true ∧ Binds K fd ps []
section
variable {P : Program} {w : World} {K : PySem.W.Frag} {mg : Str → Option Value} {base : Heap}
theorem Dn.calX {x : Str} {st : Stmt} {N ps : List Str} {k : Nat} {sp : Sp} (D : Dn K mg x st ps) (S : FnScope N ps (defScope st)) (len : ∀ vs H Q E, sp vs H Q E → vs.length = ps.length)
    (hbody : ∀ (f : Addr) (cdv : Value) (A : Around) (outer : List Env) (s : Shared) (H : Hp) (vs : List V) (Q : VK) (E : XK), Room k (A.deeper (envOfC x (defScope st) s.heap.objs.size f cdv)) → sp vs H Q E →
      ∃ t, PSs (cxOf (L2.CX P w) P w K mg base N x (defScope st) f cdv A outer s H E) (defBody st) t ∧ t { nx := fun _ H' => Q .non H', rt := Q } (start N vs) H) : CalX P w K mg base x (k + 1) ps sp := by
  obtain ⟨f, fd, F, hm, hb⟩ := D.ok
  exact ⟨f, fd, F.okX S len fun cdv A outer s H vs Q E hr h => hbody f cdv A outer s H vs Q E hr h, hm, F.kp, hb⟩
end
section
variable {X : Cx} {k : Nat} {ps : List Str} {sp : Sp} {x : Str} {p pos : Pos} {e : Expr} {es : List Expr} {t : TA} {W : WX}
/-- a call that may raise, W what is wished of what it raises -/
theorem pe_calS (C : CalX X.prog X.w X.K X.mg X.base x k ps sp) (tk : Takes X W) (hr : Room k X.A) (hg : Gl X x) (ha : PA X (e :: es) t) (hdb : (x == ("__debug__" : Str)) = false := by decide)
    (he : starEach (e :: es) X.env = (false, eval e X.env) :: starEach es X.env := by rfl) (hpl : (backTo pos (starEach es X.env)).any (·.1) = false := by rfl) : PE X (.Call (.Name x p) (e :: es) [] pos) (tCallS sp (WE W) t) := by
  obtain ⟨f, fd, F, hm, hk, hb⟩ := C.ok
  exact pe_callS F hr hg hm hk hb (fun σ => passAt tk σ) ha hdb he hpl
end
abbrev veB : List Value := [.type "ValueError", .type "Exception", .type "BaseException", .type "object"]
structure ErrM (K : PySem.W.Frag) (mg : Str → Option Value) (C : Addr) : Prop where
  g : mg "Malformed" = some (.ref C)
  x : PySem.W.excIn K C veB "ValueError.__new__" = true
  k : PySem.W.keepIn K (.ref C) = true
  b : PySem.W.subIn K (.ref C) (.type "BaseException") = some true
  t : PySem.W.typeIn K (.ref C) = some (.type "type")
  mm : PySem.W.exmOne K (.ref C) (.ref C) = some true
structure ErrO (K : PySem.W.Frag) (mg : Str → Option Value) (C : Addr) : Prop where
  m : ErrM K mg C
structure ErrR (K : PySem.W.Frag) (mg : Str → Option Value) (M C f : Addr) : Prop where
  g : mg "Refused" = some (.ref C)
  ox : OexC K C
  i : PySem.W.findIn K (.ref C) "__init__" = some (some (.ref f))
  t : PySem.W.typeIn K (.ref f) = some (.type "function")
  n : PySem.W.findIn K (.ref C) "reason" = some none
  xf : XfC K C
  rm : PySem.W.exmOne K (.ref C) (.ref M) = some false
  rr : PySem.W.exmOne K (.ref C) (.ref C) = some true
/-- Refused.__init__(self, reason) -/
def spRI (K : PySem.W.Frag) : Sp := fun vs H Q _ => ∃ (a C : Addr) (v : V), vs = [.ref a, v] ∧ OexC K C ∧ PySem.W.findIn K (.ref C) "reason" = some none ∧ H a = some (exo a C none) ∧
  ∀ dx, H dx = none → dx ≠ a → Q .non (upd (upd H dx (exd dx [("reason", v)])) a (exo a C (some dx)))
structure ErrI (P : Program) (w : World) (K : PySem.W.Frag) (mg : Str → Option Value) (base : Heap) (M C : Addr) : Prop where
  m : ErrM K mg M
  r : ∃ f fd, ErrR K mg M C f ∧ FnOk P w K mg base CX0 1 f fd ["self", "reason"] (spRI K) ∧ Binds K fd ["self", "reason"] []
section
variable {P : Program} {w : World} {K : PySem.W.Frag} {mg : Str → Option Value} {base : Heap} {M C : Addr}
end
/-- raise Malformed('..') -/
theorem ps_mal {X : Cx} {W : WX} {M : Addr} {m : Str} {j : Nat} {p p2 pos pp : Pos} (E : ErrM X.K X.mg M) (hc : X.calm = true) (tk : Takes X W) (hg : Gl X "Malformed") : PS X (.Raise (some (.Call (.Name "Malformed" p) [.Constant (.str m) j p2] [] pos)) none pp) (fun _ σ H => W (.ref M) none σ H) :=
  ps_raise hc tk (pmk_own PySem.F.excBase_ValueError E.x E.g E.k (raises_own E.b E.t) hg)
/-- raise Refused('..') -/
theorem ps_ref {X : Cx} {W : WX} {M C : Addr} {m : Str} {j : Nat} {p p2 pos pp : Pos} (E : ErrI X.prog X.w X.K X.mg X.base M C) (hc : X.calm = true) (tk : Takes X W) (hr : Room 2 X.A) (hg : Gl X "Refused") (hs : starEach [Expr.Constant (.str m) j p2] X.env = (false, eval (Expr.Constant (.str m) j p2) X.env) :: starEach [] X.env := by rfl)
    (hpl : (backTo pos (starEach [] X.env)).any (·.1) = false := by rfl) :
    PS X (.Raise (some (.Call (.Name "Refused" p) [.Constant (.str m) j p2] [] pos)) none pp) (fun _ σ H => ∀ d H', Same H H' → H d = none → H' d = some (.xd [("reason", .str m)]) → W (.ref C) (some d) σ H') := by
  obtain ⟨f, fd, R, F, b⟩ := E.r
  refine ⟨fun pins s σ H D I h => ?_⟩
  refine (ps_raise hc tk (pmk_oex R.ox R.i R.t F hr b .nil pass0 hg R.g (pa_cons pe_str pa_nil hs) rfl hs hpl)).run pins s σ H D I ?_
  show ([V.str m].length ≤ 1000 ∧ _)
  refine ⟨by show 1 ≤ 1000; decide, fun a na => ⟨a, C, .str m, rfl, R.ox, R.n, upd_same, fun dx ndx ne => ⟨rfl, dx, [("reason", .str m)], upd_same, ?_, ?_, ?_⟩⟩⟩
  · rw [upd_ne ne, upd_same]
  · rw [upd_ne ne] at ndx
    exact ndx
  · rw [upd_ne ne] at ndx
    refine h dx _ (fun b o e => ?_) ndx upd_same
    have hbd : b ≠ dx := ne_of_none e ndx
    have hba : b ≠ a := ne_of_none e na
    rw [upd_ne hbd, del_ne hba, upd_ne hba, upd_ne hbd, upd_ne hba]
    exact e
end CB
namespace CB
open PySem PySem.Spec PyProof.Rows L2
theorem exm_b {K : PySem.W.Frag} {S C : Addr} {b : Bool} (h1 : PySem.W.subIn K (.ref C) (.type "BaseException") = some true) (h2 : PySem.W.isClsIn K C = true) (h3 : PySem.W.typeIn K (.ref C) = some (.type "type")) (h4 : PySem.W.subIn K (.ref S) (.ref C) = some b) :
    PySem.W.exmOne K (.ref S) (.ref C) = some b := by
  unfold PySem.W.exmOne
  rw [if_pos (by rw [h1] <;> rfl)]
  show (if ((PySem.W.clsIn K C).isSome && PySem.W.typeIn K (.ref C) == some (.type "type")) = true then PySem.W.subIn K (.ref S) (.ref C) else none) = some b
  have h5 : (PySem.W.clsIn K C).isSome = true := h2
  rw [h5, h3, if_pos (by rfl)]
  exact h4
theorem dn_mk {K : PySem.W.Frag} {h : Heap} {mg : Str → Option Value} {x : Str} {st : Stmt} {ps : List Str} {f : Addr} {oc : Value} {od an : Option Addr} {osl : Array (Option Value)} {kV doc pm cdv ct : Value} (X : K.In h) (G : h.Ns mainGlobals mg)
    (a : PySem.W.nsIn K mainGlobals x = some (some (.ref f))) (l : K.lookup f = some ⟨oc, od, .func (PySem.W.fnOf x x (defArgs st) (defBody st) (defScope st) .none kV doc pm an cdv ct), osl⟩) (c : PySem.W.codeIn K cdv x = true) (k : PySem.W.keepIn K (.ref f) = true)
    (hb : ∀ (kV doc pm : Value) (an : Option Addr) (cdv ct : Value) (us : List Value), us.length = ps.length → bindArgs (PySem.W.fnOf x x (defArgs st) (defBody st) (defScope st) .none kV doc pm an cdv ct) ⟨us, []⟩ = pure (ps.zip us)) : Dn K mg x st ps :=
  ⟨f, _, fun_mk l c k, PySem.W.mg_of X G a, (fun_mk l c k).binds hb⟩
end CB
/-! sorted of a list of pairs of pairs of ints -/
namespace CB
open PySem PySem.Spec PyProof.Rows Srt SrtO L2
abbrev M4 := (Int × Int) × (Int × Int)
def dM (m : M4) : PyData := .tuple [.tuple [.int m.1.1, .int m.1.2], .tuple [.int m.2.1, .int m.2.2]]
def lexM (p q : M4) : Bool := if p.1 = q.1 then lexB p.2 q.2 else lexB p.1 q.1
theorem alike_M (p q : M4) : PySem.W.alike (dM p) (dM q) = true := by
  simp [dM, PySem.W.alike, PySem.W.alikeAll]
theorem eqv_pp (a b c d : Int) : PyData.eqv (.tuple [.int a, .int b]) (.tuple [.int c, .int d]) = decide ((a, b) = (c, d)) := by
  have e : PyData.eqv (.tuple [.int a, .int b]) (.tuple [.int c, .int d]) = ((a == c) && ((b == d) && true)) := rfl
  rw [e]
  by_cases h1 : a = c
  · by_cases h2 : b = d
    · simp [h1, h2]
    · simp [h2]
  · simp [h1]
theorem lt_pp (p q : Int × Int) : PySem.W.dataLt (.tuple [.int p.1, .int p.2]) (.tuple [.int q.1, .int q.2]) = lexB p q := by
  rw [PySem.W.dataLt_ii]
  have h := @lexB_iff p q
  cases hb : lexB p q with
  | true => exact decide_eq_true (h.mp hb)
  | false => exact decide_eq_false fun z => by rw [h.mpr z] at hb; cases hb
theorem lt_M (p q : M4) : PySem.W.dataLt (dM p) (dM q) = lexM p q := by
  unfold dM lexM
  rw [PySem.W.dataLt_pair (by simp [PySem.W.alike, PySem.W.alikeAll]) (by simp [PySem.W.alike, PySem.W.alikeAll]), eqv_pp, eqv_pp, lt_pp, lt_pp]
  by_cases h1 : p.1 = q.1
  · rw [if_pos (decide_eq_true h1), if_pos h1]
    by_cases h2 : p.2 = q.2
    · rw [if_pos (decide_eq_true h2), h2]
      symm
      cases hb : lexB q.2 q.2 with
      | false => rfl
      | true =>
        have := lexB_iff.mp hb
        omega
    · rw [if_neg (fun z => h2 (of_decide_eq_true z))]
  · rw [if_neg (fun z => h1 (of_decide_eq_true z)), if_neg h1]
theorem lexM_iff {p q : M4} : lexM p q = true ↔ (p.1.1 < q.1.1 ∨ (p.1.1 = q.1.1 ∧ (p.1.2 < q.1.2 ∨ (p.1.2 = q.1.2 ∧ (p.2.1 < q.2.1 ∨ (p.2.1 = q.2.1 ∧ p.2.2 < q.2.2)))))) := by
  obtain ⟨⟨a, b⟩, ⟨c, d⟩⟩ := p
  obtain ⟨⟨a', b'⟩, ⟨c', d'⟩⟩ := q
  unfold lexM
  by_cases e : (a, b) = (a', b')
  · rw [if_pos e, lexB_iff]
    have e1 : a = a' := congrArg Prod.fst e
    have e2 : b = b' := congrArg Prod.snd e
    simp only
    omega
  · rw [if_neg e, lexB_iff]
    have : ¬ (a = a' ∧ b = b') := fun z => e (by rw [z.1, z.2])
    simp only
    omega
theorem lexM_no {p q : M4} : lexM p q = false ↔ ¬ (p.1.1 < q.1.1 ∨ (p.1.1 = q.1.1 ∧ (p.1.2 < q.1.2 ∨ (p.1.2 = q.1.2 ∧ (p.2.1 < q.2.1 ∨ (p.2.1 = q.2.1 ∧ p.2.2 < q.2.2)))))) := by
  rw [← lexM_iff]
  cases lexM p q <;> simp
theorem lexM_eq {p q : M4} (h1 : lexM p q = false) (h2 : lexM q p = false) : p = q := by
  have a := lexM_no.mp h1
  have b := lexM_no.mp h2
  obtain ⟨⟨p1, p2⟩, ⟨p3, p4⟩⟩ := p
  obtain ⟨⟨q1, q2⟩, ⟨q3, q4⟩⟩ := q
  simp only at a b
  have e1 : p1 = q1 := by omega
  have e2 : p2 = q2 := by omega
  have e3 : p3 = q3 := by omega
  have e4 : p4 = q4 := by omega
  rw [e1, e2, e3, e4]
theorem srtM_uniq {l m : List M4} (h1 : l.Pairwise (fun p q => lexM q p = false)) (h2 : m.Pairwise (fun p q => lexM q p = false)) (h : l.Perm m) : l = m :=
  List.Perm.eq_of_pairwise (le := fun p q => lexM q p = false) (fun a b _ _ x y => lexM_eq y x) h1 h2 h
/-- x is, in H, the tuple m of tuples -/
def IsM (H : Hp) (x : V) (m : M4) : Prop := ∃ r r1 r2, x = V.ref r ∧ H r = some (.tup [.ref r1, .ref r2]) ∧ H r1 = some (.tup [.int m.1.1, .int m.1.2]) ∧ H r2 = some (.tup [.int m.2.1, .int m.2.2])
theorem IsM.fn {H : Hp} {x : V} {m m' : M4} (h : IsM H x m) (h' : IsM H x m') : m = m' := by
  obtain ⟨r, r1, r2, rfl, e, e1, e2⟩ := h
  obtain ⟨_, _, _, q, f, f1, f2⟩ := h'
  cases q
  rw [e] at f
  cases f
  rw [e1] at f1
  rw [e2] at f2
  obtain ⟨⟨a, b⟩, ⟨c, d⟩⟩ := m
  obtain ⟨⟨a', b'⟩, ⟨c', d'⟩⟩ := m'
  simp only [Option.some.injEq, HO.tup.injEq, List.cons.injEq, V.int.injEq, and_true] at f1 f2
  rw [f1.1, f1.2, f2.1, f2.2]
theorem IsM.same {H H' : Hp} {x : V} {m : M4} (s : Same H H') (h : IsM H x m) : IsM H' x m := by
  obtain ⟨r, r1, r2, q, e, e1, e2⟩ := h
  exact ⟨r, r1, r2, q, s _ _ e, s _ _ e1, s _ _ e2⟩
open Classical in
noncomputable def kM (H : Hp) (x : V) : M4 := if h : ∃ m, IsM H x m then h.choose else ((0, 0), (0, 0))
theorem IsM.k {H : Hp} {x : V} {m : M4} (h : IsM H x m) : kM H x = m := by
  unfold kM
  rw [dif_pos ⟨m, h⟩]
  exact (Exists.choose_spec (⟨m, h⟩ : ∃ m, IsM H x m)).fn h
/-- the list of such tuples at the xs -/
def Mats (H : Hp) (xs : List V) (ms : List M4) : Prop := (∀ x ∈ xs, IsM H x (kM H x)) ∧ ms = xs.map (kM H)
theorem Mats.same {H H' : Hp} {xs : List V} {ms : List M4} (s : Same H H') (h : Mats H xs ms) : Mats H' xs ms := by
  obtain ⟨h1, rfl⟩ := h
  have e : ∀ x ∈ xs, kM H' x = kM H x := fun x m => ((h1 x m).same s).k
  exact ⟨fun x m => by rw [e x m]; exact (h1 x m).same s, List.map_congr_left fun x m => (e x m).symm⟩
theorem Mats.keep {H H' : Hp} {xs : List V} {ms : List M4} (s : ∀ r us, H r = some (.tup us) → H' r = some (.tup us)) (h : Mats H xs ms) : Mats H' xs ms := by
  obtain ⟨h1, rfl⟩ := h
  have g : ∀ x ∈ xs, IsM H' x (kM H x) := fun x m => by
    obtain ⟨r, r1, r2, q, e, e1, e2⟩ := h1 x m
    exact ⟨r, r1, r2, q, s _ _ e, s _ _ e1, s _ _ e2⟩
  exact ⟨fun x m => by rw [(g x m).k]; exact g x m, List.map_congr_left fun x m => ((g x m).k).symm⟩
theorem Mats.updL {H : Hp} {f : Addr} {l : List V} {o : HO} {xs : List V} {ms : List M4} (h : Mats H xs ms) (e : H f = some (.lst l)) : Mats (upd H f o) xs ms :=
  h.keep fun r us q => by rw [upd_ne (ne_of q e (by intro z; cases z))]; exact q
theorem Mats.updN {H : Hp} {f : Addr} {o : HO} {xs : List V} {ms : List M4} (h : Mats H xs ms) (e : H f = none) : Mats (upd H f o) xs ms := h.same (same_upd e)
theorem Mats.nil {H : Hp} : Mats H [] [] := ⟨fun x m => by simp at m, rfl⟩
theorem Mats.snoc {H : Hp} {xs : List V} {ms : List M4} {x : V} {m : M4} (h : Mats H xs ms) (e : IsM H x m) : Mats H (xs ++ [x]) (ms ++ [m]) := by
  obtain ⟨h1, rfl⟩ := h
  refine ⟨fun y hy => ?_, ?_⟩
  · rcases List.mem_append.mp hy with hy | hy
    · exact h1 y hy
    · rw [List.mem_singleton.mp hy, e.k]
      exact e
  · rw [List.map_append, List.map_singleton, e.k]
theorem Mats.get {H : Hp} {xs : List V} {ms : List M4} {i : Nat} {x : V} (h : Mats H xs ms) (e : xs[i]? = some x) : ∃ m, IsM H x m ∧ ms[i]? = some m := by
  obtain ⟨h1, rfl⟩ := h
  exact ⟨_, h1 x (List.mem_of_getElem? e), by rw [List.getElem?_map, e]; rfl⟩
theorem Mats.len {H : Hp} {xs : List V} {ms : List M4} (h : Mats H xs ms) : ms.length = xs.length := by
  rw [h.2, List.length_map]
theorem dp_M {K : PySem.W.Frag} {H : Hp} {x : V} {m : M4} (h : IsM H x m) : Dp K H x (dM m) := by
  obtain ⟨r, r1, r2, rfl, e, e1, e2⟩ := h
  exact .tup (SqT.of e) (.cons (.tup (SqT.of e1) (.cons (.int _) (.cons (.int _) .nil))) (.cons (.tup (SqT.of e2) (.cons (.int _) (.cons (.int _) .nil))) .nil))
theorem dp_Ms {K : PySem.W.Frag} {H : Hp} : ∀ {xs : List V} {ms : List M4}, Mats H xs ms → DpAll K H xs (ms.map dM) := fun {xs ms} h => by
  obtain ⟨h1, rfl⟩ := h
  induction xs with
  | nil => exact .nil
  | cons x xs ih => exact .cons (dp_M (h1 x List.mem_cons_self)) (ih fun y m => h1 y (List.mem_cons_of_mem _ m))
theorem lay_M : ∀ ms : List M4, PyData.canLayAll0 (ms.map dM) = true
  | [] => rfl
  | m :: ms => by
    show (PyData.canLay0 (dM m) && PyData.canLayAll0 (ms.map dM)) = true
    rw [lay_M ms]
    rfl
theorem depth_M : ∀ ms : List M4, PyData.depthAll (ms.map dM) ≤ 3
  | [] => by decide
  | m :: ms => by
    have := depth_M ms
    show max (PyData.depth (dM m)) (PyData.depthAll (ms.map dM)) ≤ 3
    have e : PyData.depth (dM m) = 2 := rfl
    omega
theorem shaped_M (ms : List M4) : SeqAt.shaped (.tuple (ms.map dM)) = true := by
  unfold SeqAt.shaped
  have a : PyData.canLay0 (.tuple (ms.map dM)) = true := lay_M ms
  have b : PyData.depth (.tuple (ms.map dM)) ≤ 64 := by
    have := depth_M ms
    show PyData.depthAll (ms.map dM) + 1 ≤ 64
    omega
  rw [a, decide_eq_true b]
  rfl
/-- sorted(xs), xs a list of pairs of pairs -/
def rSortedM (K : PySem.W.Frag) : List V → Hp → VK → Prop := fun vs H Q => ∃ (a : Addr) (xs : List V) (ms : List M4), vs = [V.ref a] ∧ SqL K H a xs ∧ Mats H xs ms ∧
  ∀ ys us p, Mats H ys us → us.Pairwise (fun p q => lexM q p = false) → us.Perm ms → H p = none → Q (.ref p) (upd H p (.lst ys))
theorem rd_sortedM {K : PySem.W.Frag} {vs : List V} {H : Hp} {Q : VK} : rSortedM K vs H Q = ∃ (a : Addr) (xs : List V) (ms : List M4), vs = [V.ref a] ∧ SqL K H a xs ∧ Mats H xs ms ∧
  ∀ ys us p, Mats H ys us → us.Pairwise (fun p q => lexM q p = false) → us.Perm ms → H p = none → Q (.ref p) (upd H p (.lst ys)) := rfl
section
variable {X : Cx}
theorem each_vals : ∀ {vs : List Value} {xs : List V}, Vals xs vs → PySem.W.EachIs (fun v x => RelV x v) vs xs
  | _, _, .nil => .nil
  | _, _, .cons r h => .cons r (each_vals h)
theorem vals_each : ∀ {vs : List Value} {xs : List V}, PySem.W.EachIs (fun v x => RelV x v) vs xs → Vals xs vs
  | _, _, .nil => .nil
  | _, _, .cons r h => .cons r (vals_each h)
theorem cr_sortedM (hu : X.A.units + 64 < cLine) : CallR X (.builtin "sorted") (rSortedM X.K) := by
  intro pins s σ H vs us Q I r h
  obtain ⟨a, xs, ms, rfl, hs, ⟨hx, rfl⟩, q⟩ := h
  obtain ⟨its, rv, hl, hz⟩ := I.list hs
  obtain ⟨u, rfl, ru⟩ := vals1 r
  obtain rfl : u = Value.ref a := ru
  have hlen := rv.length
  have e0 : PySem.W.EachIs (fun v x => RelV x v) its xs := each_vals rv
  have mem : PySem.W.EachIs (fun v (x : V) => ∃ as, Reads s.heap v (dM (kM H x)) as) its xs := by
    refine PySem.W.EachIs.of_zip (by omega) fun p hp => ?_
    exact Dp.reads I _ _ _ (dp_M (hx p.2 (List.of_mem_zip hp).2)) (e0.zip p hp)
  refine PySem.W.sorted_data (s := s) (β := V) (R := fun v x => RelV x v) (enc := fun x => dM (kM H x)) hl.isList e0 mem (PySem.W.AllAlike.of fun b b' => alike_M _ _) (PySem.W.Sortable.tuples fun b => ⟨_, _, rfl⟩) (by omega) (fun b _ => ?_) fun out ho eo => ?_
  · have : PyData.depth (dM (kM H b)) = 2 := rfl
    omega
  · have ep : (fun b b' : V => PySem.W.dataLe false (fun x => dM (kM H x)) b b') = fun b b' => !lexM (kM H b') (kM H b) := by
      rw [PySem.W.dataLe_eq]
      funext b b'
      show (!PySem.W.dataLt (dM (kM H b')) (dM (kM H b))) = _
      rw [lt_M]
    have hp : (xs.mergeSort (PySem.W.dataLe false (fun x => dM (kM H x)))).Perm xs := List.mergeSort_perm xs _
    have hT : ∀ x ∈ xs.mergeSort (PySem.W.dataLe false (fun x => dM (kM H x))), IsM H x (kM H x) := fun x m => hx x (hp.mem_iff.mp m)
    have hS : ((xs.mergeSort (PySem.W.dataLe false (fun x => dM (kM H x)))).map (kM H)).Pairwise (fun p q => lexM q p = false) := by
      rw [List.pairwise_map]
      have := List.pairwise_mergeSort (le := fun b b' : V => !lexM (kM H b') (kM H b)) (fun x y z h1 h2 => ?_) (fun x y => ?_) xs
      · rw [show PySem.W.dataLe false (fun x => dM (kM H x)) = fun b b' => !lexM (kM H b') (kM H b) from ep]
        exact this.imp fun h => by simpa using h
      · have a1 := lexM_no.mp (by simpa using h1 : lexM (kM H y) (kM H x) = false)
        have a2 := lexM_no.mp (by simpa using h2 : lexM (kM H z) (kM H y) = false)
        have : lexM (kM H z) (kM H x) = false := lexM_no.mpr (by omega)
        simp [this]
      · by_cases c : lexM (kM H y) (kM H x) = true
        · have a1 := lexM_iff.mp c
          have : lexM (kM H x) (kM H y) = false := lexM_no.mpr (by omega)
          simp [this]
        · simp [Bool.not_eq_true _ |>.mp c]
    obtain ⟨n, hn⟩ := sortedAll_at s.heap its (List.toArray out)
    refine ⟨.ref (s.heap.objs.size + 1), upd H (s.heap.objs.size + 1) (.lst (xs.mergeSort (PySem.W.dataLe false (fun x => dM (kM H x))))), I.laid (t' := s.toks) (fun b o e => sortedAll_old e) (Nat.le_succ _) ⟨?_, out, n, vals_each eo, hn⟩, rfl, q _ _ _ ⟨hT, rfl⟩ hS (hp.map (kM H)) (I.hok.fresh (Nat.le_succ _))⟩
    rw [hp.length_eq]
    omega
end
end CB
/-! a call of what an expression tells, one of several defs -/
namespace CB
open PySem PySem.Spec PyProof.Rows L2
structure HeldE (P : Program) (w : World) (K : PySem.W.Frag) (mg : Str → Option Value) (base : Heap) (kk : Nat) (f : Addr) (sp : Sp) : Prop where
  ex : ∃ (k : Nat) (fd : FuncData) (ps : List Str), k ≤ kk ∧ FnOk P w K mg base (L2.CX P w) k f fd ps sp ∧ PySem.W.keepIn K (.ref f) = true ∧ Binds K fd ps []
def tCallE (S : Addr → Sp → Prop) (E : L2.St → XK) (tf : TE) (t : TA) : TE := fun σ H Q => tf σ H fun y H1 => ∃ f sp, y = V.ref f ∧ S f sp ∧ t σ H1 fun vs H2 => sp vs H2 Q (E σ)
section
variable {X : Cx} {S : Addr → Sp → Prop} {kk : Nat} {p pos : Pos} {fe e : Expr} {es : List Expr} {tf : TE} {t : TA} {W : WX}
theorem pe_callE (A : ∀ f sp, S f sp → HeldE X.prog X.w X.K X.mg X.base kk f sp) (tk : Takes X W) (hr : Room kk X.A) (hf : PE X fe tf) (ha : PA X (e :: es) t)
    (ht : eval (.Call fe (e :: es) [] pos) X.env = (do callWith pos (← eval fe X.env) [] (backTo pos (starEach (e :: es) X.env)) (backToKw pos (keywordEach [] X.env))) := by rfl)
    (he : starEach (e :: es) X.env = (false, eval e X.env) :: starEach es X.env := by rfl) (hpl : (backTo pos (starEach es X.env)).any (·.1) = false := by rfl) : PE X (.Call fe (e :: es) [] pos) (tCallE S (WE W) tf t) := by
  refine ⟨fun pins s σ H Q I h => ?_⟩
  refine Call_ (thn (hf.run pins s σ H _ I h) fun u s1 ⟨y, H1, I1, ry, f, sp, ey, hS, q⟩ => ?_) ht
  subst ey
  obtain rfl : u = Value.ref f := ry
  obtain ⟨k, fd, ps, hk, F, hkeep, hb⟩ := (A f sp hS).ex
  refine PySem.W.callWith_K (h₀ := X.base) I1.ok.mod.kin hkeep (thn (ha.run pos pins s1 σ H1 _ I1 q) fun us s2 ⟨vs, H2, I2, r, q2⟩ => ⟨I2.kIn, ?_⟩) he hpl
  exact run_fnS F (hr.mono hk) hb (passAt tk σ) I2 r q2
end
theorem rd_callE {S : Addr → Sp → Prop} {E : L2.St → XK} {tf : TE} {t : TA} {σ : L2.St} {H : Hp} {Q : VK} : tCallE S E tf t σ H Q = tf σ H fun y H1 => ∃ f sp, y = V.ref f ∧ S f sp ∧ t σ H1 fun vs H2 => sp vs H2 Q (E σ) := rfl
theorem CalX.held {P : Program} {w : World} {K : PySem.W.Frag} {mg : Str → Option Value} {base : Heap} {x : Str} {k kk : Nat} {ps : List Str} {sp : Sp} (C : CalX P w K mg base x k ps sp) (h : k ≤ kk) : ∃ f, mg x = some (.ref f) ∧ HeldE P w K mg base kk f sp := by
  obtain ⟨f, fd, F, hm, hk, hb⟩ := C.ok
  exact ⟨f, hm, ⟨k, fd, ps, h, F, hk, hb⟩⟩
end CB
/-! dicts with int keys, list.pop: readings unfolded -/
namespace CB
open PySem PySem.Spec PyProof.Rows L2
section
variable {K : PySem.W.Frag} {σ : L2.St} {H : Hp} {Q : VK} {td ty tx tv to : TE} {D : Ends}
theorem rd_pop : tBM0 K "list" rPop to σ H Q = to σ H fun x H1 => tyV K "list" x H1 ∧ ∃ l xs y, x = .ref l ∧ H1 l = some (.lst xs) ∧ xs[xs.length - 1]? = some y ∧ Q y (upd H1 l (.lst xs.dropLast)) := by
  show (to σ H fun x H1 => tyV K "list" x H1 ∧ ∃ l xs y, x = V.ref l ∧ ([] : List V) = [] ∧ _) = _
  congr 1
  funext x H1
  simp
theorem rd_dnew : tDNewK σ H Q = ∀ p, H p = none → Q (.ref p) (upd H p (.dK [])) := rfl
theorem rd_dget : tDGet td ty σ H Q = td σ H fun x H1 => ty σ H1 fun y H2 => ∃ a v, x = .ref a ∧ DGet H2 a y (some v) ∧ Q v H2 := rfl
theorem rd_dget2 : tDGet2 td ty tx σ H Q = td σ H fun x H1 => ∃ a, x = .ref a ∧ IsD H1 a ∧ ty σ H1 fun y H2 => tx σ H2 fun z H3 => ∃ o, DGet H3 a y o ∧ Q (o.getD z) H3 := rfl
theorem rd_dput : sDPut td ty tv D σ H = tv σ H fun v H1 => td σ H1 fun x H2 => ty σ H2 fun y H3 => ∃ a H4, x = .ref a ∧ DPut H3 a y v H4 ∧ D.nx σ H4 := rfl
end
/-- a dict of ints by a list of pairs -/
def dI (l : List (Nat × Nat)) : List (Key × V) := l.map fun q => (Sum.inl (q.1 : Int), V.int (q.2 : Int))
def getC (l : List (Nat × Nat)) (p : Nat) : Option Nat := (l.find? fun q => decide (q.1 = p)).map (·.2)
theorem val_dI (l : List (Nat × Nat)) (p : Nat) : valV (dI l) (Sum.inl (p : Int)) = (getC l p).map fun c : Nat => V.int (c : Int) := by
  unfold valV dI getC
  induction l with
  | nil => rfl
  | cons q l ih =>
    rw [List.map_cons, List.find?_cons, List.find?_cons]
    have e : decide ((Sum.inl (q.1 : Int) : Key) = Sum.inl (p : Int)) = decide (q.1 = p) := by
      by_cases c : q.1 = p
      · rw [decide_eq_true c, decide_eq_true (by rw [c])]
      · rw [decide_eq_false c, decide_eq_false (fun z => c (by have := Sum.inl.inj z; omega))]
    show Option.map _ (match decide ((Sum.inl (q.1 : Int) : Key) = Sum.inl (p : Int)) with | true => _ | false => _) = _
    rw [e]
    cases decide (q.1 = p) with
    | true => rfl
    | false => exact ih
/-- one more of p -/
def bumpC (l : List (Nat × Nat)) (p c : Nat) : List (Nat × Nat) := if (l.any fun q => decide (q.1 = p)) = true then l.map (fun q => if q.1 = p then (q.1, c) else q) else l ++ [(p, c)]
theorem put_dI (l : List (Nat × Nat)) (p c : Nat) : putK (dI l) (Sum.inl (p : Int)) (V.int (c : Int)) = dI (bumpC l p c) := by
  have e : ∀ n : Nat, decide ((Sum.inl (n : Int) : Key) = Sum.inl (p : Int)) = decide (n = p) := fun n => by
    by_cases c : n = p
    · rw [decide_eq_true c, decide_eq_true (by rw [c])]
    · rw [decide_eq_false c, decide_eq_false (fun z => c (by have := Sum.inl.inj z; omega))]
  have ea : (dI l).any (fun kv => decide (kv.1 = (Sum.inl (p : Int) : Key))) = l.any fun q => decide (q.1 = p) := by
    unfold dI
    rw [List.any_map]
    congr 1
    funext q
    exact e q.1
  unfold putK bumpC
  rw [ea]
  by_cases h : (l.any fun q => decide (q.1 = p)) = true
  · rw [if_pos h, if_pos h]
    unfold dI
    rw [List.map_map, List.map_map]
    refine List.map_congr_left fun q _ => ?_
    show (if (Sum.inl (q.1 : Int) : Key) = Sum.inl (p : Int) then _ else _) = _
    by_cases c : q.1 = p
    · rw [if_pos (by rw [c])]
      show _ = (fun q : Nat × Nat => ((Sum.inl (q.1 : Int) : Key), V.int (q.2 : Int))) (if q.1 = p then _ else _)
      rw [if_pos c]
    · rw [if_neg (fun z => c (by have := Sum.inl.inj z; omega))]
      show _ = (fun q : Nat × Nat => ((Sum.inl (q.1 : Int) : Key), V.int (q.2 : Int))) (if q.1 = p then _ else _)
      rw [if_neg c]
  · rw [if_neg h, if_neg h]
    unfold dI
    rw [List.map_append]
    rfl
theorem dget_I {H : Hp} {a : Addr} {l : List (Nat × Nat)} {p : Nat} (e : H a = some (.dK (dI l))) : DGet H a (.int (p : Int)) ((getC l p).map fun c : Nat => V.int (c : Int)) := by
  have := DGet.k (k := Sum.inl (p : Int)) e
  rw [val_dI] at this
  exact this
theorem dput_I {H : Hp} {a : Addr} {l : List (Nat × Nat)} {p c : Nat} (e : H a = some (.dK (dI l))) (hl : l.length < sizeLine) : DPut H a (.int (p : Int)) (.int (c : Int)) (upd H a (.dK (dI (bumpC l p c)))) := by
  have := DPut.k (k := Sum.inl (p : Int)) (v := .int (c : Int)) e (by unfold dI; rw [List.length_map]; exact hl)
  rw [put_dI] at this
  exact this
end CB
/-! any of ints; enumerate of a tuple; a tuple times an int, few times -/
namespace CB
open PySem PySem.Spec PyProof.Rows L2
/-! ### any(ints), a list or a tuple -/
theorem vals_int : ∀ {ns : List Int} {us : List Value}, Vals (ns.map V.int) us → ∃ ts : List Tok, ts.length = ns.length ∧ us = List.zipWith Value.int ns ts
  | [], us, h => by
    rw [List.map_nil] at h
    cases h
    exact ⟨[], rfl, rfl⟩
  | n :: ns, us, h => by
    rw [List.map_cons] at h
    cases h with
    | cons r t =>
      obtain ⟨tk, rfl⟩ := r
      obtain ⟨ts, hl, rfl⟩ := vals_int t
      exact ⟨tk :: ts, by rw [List.length_cons, List.length_cons, hl], rfl⟩
theorem truth_ints {prog : Program} {w : World} {A : Around} {ns : List Int} {us : List Value} (h : Vals (ns.map V.int) us) :
    TruthOf prog w A (fun i v => us.toArray[i]? = some v) (fun i => ns.getD i 0 != 0) := by
  intro i v s Q E hv hq
  obtain ⟨ts, hl, rfl⟩ := vals_int h
  have hv : (List.zipWith Value.int ns ts)[i]? = some v := by simpa using hv
  rw [List.getElem?_zipWith] at hv
  cases hn : ns[i]? with
  | none => rw [hn] at hv; cases ht : ts[i]? <;> rw [ht] at hv <;> cases hv
  | some n =>
    cases ht : ts[i]? with
    | none => rw [hn, ht] at hv; cases hv
    | some t =>
      rw [hn, ht] at hv
      cases hv
      have e : ns.getD i 0 = n := by rw [List.getD_eq_getElem?_getD, hn]; rfl
      have hq : Q (ns.getD i 0 != 0) s := hq
      rw [e] at hq
      exact PySem.P.truthy_int hq
theorem any_ints : ∀ ns : List Int, (List.range ns.length).any (fun i => ns.getD i 0 != 0) = ns.any (· != 0)
  | [] => rfl
  | n :: ns => by
    rw [List.length_cons, List.range_succ_eq_map, List.any_cons, List.any_map, List.any_cons, ← any_ints ns]
    all_goals rfl
section
variable {X : Cx}
def rAnyI (K : PySem.W.Frag) : List V → Hp → VK → Prop := fun vs H Q => ∃ (a : Addr) (ns : List Int), vs = [V.ref a] ∧ (SqL K H a (ns.map V.int) ∨ SqT K H a (ns.map V.int)) ∧ Q (.bl (ns.any (· != 0))) H
theorem iter_tupA {prog : Program} {w : World} {A : Around} {E : Value → Shared → Prop} {s : Shared} {l : Addr} {items : Array Value} {Q : Value → Shared → Prop} (ht : s.heap.IsTuple l items)
    (h : ∀ s2 : Shared, s2 = { s with heap := s.heap.push { cls := .type "tuple_iterator", data := .fields #[.ref l, .int 0 0] } } → (s2.heap.IsTupleIter s.heap.objs.size l 0 ∧ s2.heap.IsTuple l items) → l ≠ s.heap.objs.size → Q (.ref s.heap.objs.size) s2) : wpAny (model prog w) A (pyIter (.ref l)) Q E s := by
  have lt : l < s.heap.objs.size := by
    obtain ⟨_, e, _⟩ := ht
    exact Heap.lt_size e
  exact wpAny_pyIter_tuple ht (h _ rfl ⟨⟨_, Heap.get?_push_size _ rfl, rfl, rfl⟩, ht.at fun o e => Heap.get?_push_of_some _ e⟩ (Nat.ne_of_lt lt))
theorem cr_anyI (hc : X.calm = true) : CallR X (.builtin "any") (rAnyI X.K) := by
  intro pins s σ H vs us Q I r h
  obtain ⟨a, ns, rfl, hs, q⟩ := h
  rw [Vals.ref1 r]
  have fin : ∀ {us : List Value} {h' : Heap} {tk : Nat} {o : Obj}, Vals (ns.map V.int) us → (∀ b ob, b ∉ [s.heap.objs.size] → (s.heap.push o).get? b = some ob → h'.get? b = some ob) →
      (∃ x H', Inv X pins σ H' { s with heap := h', toks := tk } ∧ RelV x (Value.bool ((List.range us.toArray.size).any fun i => ns.getD i 0 != 0)) ∧ Q x H') := fun {us h' tk o} rv hk => by
    refine ⟨.bl _, H, I.kept fun b ob eo => hk b ob (fun hm => ?_) (Heap.get?_push_of_some _ eo), ?_, q⟩
    · have hm := List.mem_singleton.mp hm
      subst hm
      exact absurd (Heap.lt_size eo) (Nat.lt_irrefl _)
    · have e : us.toArray.size = ns.length := by
        rw [List.size_toArray, ← rv.length, List.length_map]
      rw [e, any_ints]
      rfl
  rcases hs with hs | hs
  · obtain ⟨its, rv, hl, _⟩ := I.list hs
    refine call_any_walk (iter_any hl.isList fun s2 e2 st hne => ?_)
    subst e2
    exact ⟨_, _, _, _, _, _, _, rfl, Walks.list (A := X.A.in1) (I.ok.hd hc) _ a hne its.toArray, st, truth_ints rv, fun h' tk hk => fin rv hk⟩
  · obtain ⟨its, rv, hl, _⟩ := I.tuple hs
    refine call_any_walk (iter_tupA (show s.heap.IsTuple a its.toArray from hl) fun s2 e2 st hne => ?_)
    subst e2
    exact ⟨_, _, _, _, _, _, _, rfl, Walks.tuple (A := X.A.in1) (I.ok.hd hc) _ a hne its.toArray, st, truth_ints rv, fun h' tk hk => fin rv hk⟩
theorem rd_anyI {K : PySem.W.Frag} {vs : List V} {H : Hp} {Q : VK} : rAnyI K vs H Q = ∃ (a : Addr) (ns : List Int), vs = [V.ref a] ∧ (SqL K H a (ns.map V.int) ∨ SqT K H a (ns.map V.int)) ∧ Q (.bl (ns.any (· != 0))) H := rfl
end
/-! ### enumerate(t), t a tuple -/
theorem meets_enum1 {v : Value} {o : Obj} {Hh : Heap → Prop} (Bg : Begins v o Hh) : Meets (Builtin.«enumerate.__new__» ⟨[.type "enumerate", v], []⟩)
    (fun _ R s => Hh s.heap ∧ R (.ok (.ret (.ref (s.heap.push o).objs.size))) { s with heap := (s.heap.push o).push { cls := .type "enumerate", data := .fields #[.none, .bool false, .ref s.heap.objs.size, rawInt 0, .none, .none] } }) :=
  .of_wp fun prog w A R s h => by
    obtain ⟨hp, g, d, tk, os⟩ := s
    obtain ⟨hv, h⟩ := h
    have sube := sub_enumerate
    have go : ∀ {A1 : Around} {E1 : Value → Shared → Prop} {Q1 : Value → Shared → Prop}, Q1 (.ref hp.objs.size) ⟨hp.push o, g, d, tk, os⟩ → wpAny (model prog w) A1 (pyIter v) Q1 E1 ⟨hp, g, d, tk, os⟩ := fun q => Bg.iter prog w _ _ ⟨hp, g, d, tk, os⟩ _ hv q
    wp_walk using go
    refine wpAny_stack_any fun st => wpAny_pure ?_
    split
    · rename_i cl _ _ _ _ _
      cases (cl == Value.type "enumerate") <;> (wp_walk using go; exact ⟨_, rfl, h⟩)
    · wp_walk using go
      exact ⟨_, rfl, h⟩
section
variable {prog : Program} {w : World} {A : Around} {E : Value → Shared → Prop} {s : Shared}
theorem enum1_at {v : Value} {o : Obj} {Hh : Heap → Prop} {Q : Value → Shared → Prop} (Bg : Begins v o Hh) (hv : Hh s.heap)
    (h : ∀ h1, IsEnum h1 (s.heap.objs.size + 1) s.heap.objs.size 0 .none → h1.get? s.heap.objs.size = some o → (∀ b ob, s.heap.get? b = some ob → h1.get? b = some ob) → Q (.ref (s.heap.objs.size + 1)) { s with heap := h1 }) :
    wpAny (model prog w) A (call (.type "enumerate") [v]) Q E s := by
  have sz : (s.heap.push o).objs.size = s.heap.objs.size + 1 := Heap.size_push ..
  have en : IsEnum ((s.heap.push o).push { cls := .type "enumerate", data := .fields #[.none, .bool false, .ref s.heap.objs.size, rawInt 0, .none, .none] }) (s.heap.objs.size + 1) s.heap.objs.size 0 .none := by
    have z := Heap.get?_push_size (s.heap.push o) (o := { cls := .type "enumerate", data := .fields #[.none, .bool false, .ref s.heap.objs.size, rawInt 0, .none, .none] }) rfl
    rw [sz] at z
    exact z
  refine callType_new F.called_enumerate (by decide) (F.typeCall_enumerate_1 _) (F.newCall_enumerate_1 _) (fun ob => F.args_object_init_2 ob _) F.entry_enumerate_new (meets_enum1 Bg) ⟨hv, ?_⟩
  show _ ∧ _
  rw [sz]
  exact ⟨⟨_, en, rfl⟩, h _ en (Heap.get?_push_of_some _ (Heap.get?_push_size _ Bg.free)) fun b ob x => Heap.get?_push_of_some _ (Heap.get?_push_of_some _ x)⟩
end
def IteT (K : PySem.W.Frag) (a : Addr) : It :=
  ⟨fun i H => ∃ (xs : List V) (x : V), SqT K H a xs ∧ xs[i]? = some x, fun i H v H1 => ∃ T x, v = .ref T ∧ H T = none ∧ H1 = upd H T (.tup [.int (i : Nat), x]) ∧ ∀ xs, SqT K H a xs → xs[i]? = some x, fun i H => ∃ xs : List V, SqT K H a xs ∧ xs.length = i⟩
theorem turn_enumT {P : Program} {w : World} {K : PySem.W.Frag} {elts : List Expr} {kk : Nat} {tpos : Pos} (a e it : Addr) :
    Turn P w K (.Tuple elts kk tpos) (IteT K a) [e, it] e (fun i h => (∃ old, IsEnum h e it ((i : Nat) : Int) old) ∧ h.IsTupleIter it a i ∧ e ≠ it ∧ e ≠ a ∧ a ≠ it) where
  mem := List.mem_cons_self
  obj := fun i h st b hb => by
    obtain ⟨⟨old, en⟩, ⟨o, ho, _, hd⟩, _⟩ := st
    rcases (by simpa using hb : b = e ∨ b = it) with rfl | rfl
    · exact ⟨_, en, fun v q => nomatch q⟩
    · refine ⟨o, ho, fun v q => ?_⟩
      rw [hd] at q
      cases q
  keep := fun i h h1 st k => by
    obtain ⟨⟨old, en⟩, hi, ne⟩ := st
    exact ⟨⟨old, k e List.mem_cons_self _ en⟩, hi.at fun o q => k it (List.mem_cons_of_mem _ List.mem_cons_self) o q, ne⟩
  item := by
    intro X hP hw hK hc i pins s σ H E I hf st hg
    subst hP hw hK
    obtain ⟨⟨old, en⟩, hit, ne, nea, nai⟩ := st
    obtain ⟨xs, x, hq, hx⟩ := hg
    obtain ⟨its, rv, tp, _⟩ := I.tuple hq
    obtain ⟨u, hu, ru⟩ := rv.get hx
    have lte : e < s.heap.objs.size := Heap.lt_size en
    have lti : it < s.heap.objs.size := by
      obtain ⟨_, q, _⟩ := hit
      exact Heap.lt_size q
    have ilt : i < its.toArray.size := by
      rw [List.size_toArray]
      exact (List.getElem?_eq_some_iff.mp hu).1
    refine wpAny_pyNext_enum_itemD (Draws.tuple (A := X.A.in1) (I.ok.hd hc) it a nai its.toArray) en ⟨hit, show s.heap.IsTuple a its.toArray from tp⟩ ilt ne (by simp [ne, nea]) fun x1 h1 tk hx1 ho st1 hT sz hk => ?_
    have ex1 : x1 = u := by
      have z : its[i]? = some x1 := by simpa using hx1
      rw [hu] at z
      cases z
      rfl
    subst ex1
    refine ⟨_, rfl, wpAny_letOwnedTupleGo_enum (s := { s with heap := h1, toks := tk + 1 }) ho fun h2 en2 sb => ?_⟩
    have hT2 : h2.get? s.heap.objs.size = some { cls := .type "tuple", data := .seq #[.int i tk, x1] } := (sb.2 _ (Nat.ne_of_gt lte)).trans hT
    have fresh : ObjOk X.prog X.w (upd H s.heap.objs.size (.tup [.int (i : Nat), x])) h2 s.heap.objs.size (.tup [.int (i : Nat), x]) :=
      ⟨by show 2 ≤ sizeLine; decide, [.int i tk, x1], .cons ⟨_, rfl⟩ (.cons ru .nil), ⟨_, hT2, rfl, _, rfl⟩⟩
    have I2 : Inv X pins σ (upd H s.heap.objs.size (.tup [.int (i : Nat), x])) { s with heap := h2, toks := tk + 1 } :=
      I.turnedNew (ch := [e, it]) (fun b ob hb q => (sb.2 b (fun z => hb (by simp [z]))).trans (hk b ob (fun z => hb (by simp [z])) (fun z => hb (by simp [z])) q)) hf (Nat.le_refl _) fresh
    refine ⟨.ref s.heap.objs.size, _, I2, rfl, ⟨_, x, rfl, I.hok.fresh (Nat.le_refl _), rfl, fun ys hy => by rw [I.tuple_inj hy hq]; exact hx⟩, ⟨⟨x1, ?_⟩, st1.1.at fun o q => (sb.2 it (Ne.symm ne)).trans q, ne, nea, nai⟩, fun b hb => ?_⟩
    · rw [show ((i + 1 : Nat) : Int) = (i : Int) + 1 by omega]
      exact en2
    · have lt : b < s.heap.objs.size := by
        rcases (by simpa using hb : b = e ∨ b = it) with rfl | rfl
        · exact lte
        · exact lti
      rw [upd_ne (Nat.ne_of_lt lt)]
      exact (hf b hb).1
  done := by
    intro X hP hw hK hc i pins s σ H E I hf st hg
    subst hP hw hK
    obtain ⟨⟨old, en⟩, hit, ne, nea, nai⟩ := st
    obtain ⟨xs, hq, hx⟩ := hg
    obtain ⟨its, rv, tp, _⟩ := I.tuple hq
    obtain ⟨g0, g1, g2, g3, g4, g5⟩ := hf it (List.mem_cons_of_mem _ List.mem_cons_self)
    have sz : its.toArray.size = i := by
      have := rv.length
      rw [List.size_toArray]
      omega
    subst sz
    exact wpAny_pyNext_enum_endD (Draws.tuple (A := X.A.in1) (I.ok.hd hc) it a nai its.toArray) en ⟨hit, show s.heap.IsTuple a its.toArray from tp⟩ fun h1 eb => ⟨rfl, I.turned (t' := s.toks) (fun b o hb q => eb b o hb q) g0 g1 g3 g4 g5⟩
  self := fun A i s Q E st h => let ⟨⟨_, en⟩, _⟩ := st; wpAny_pyIter_enum en h
def iEnumT (K : PySem.W.Frag) (ta : TA) : TI := fun σ H R => ta σ H fun vs H1 => ∃ a xs, vs = [.ref a] ∧ SqT K H1 a xs ∧ R (IteT K a) H1
theorem pi_enumT {X : Cx} {e : Expr} {ta : TA} {p pos tpos : Pos} {elts : List Expr} {kk : Nat} (hg : Gl X "enumerate") (hm : X.mg "enumerate" = none) (ha : PA X [e] ta) (hs : starEach [e] X.env = [(false, eval e X.env)] := by rfl) :
    PI X (.Tuple elts kk tpos) (.Call (.Name "enumerate" p) [e] [] pos) (iEnumT X.K ta) := by
  refine ⟨fun pins s σ H R I h => ?_⟩
  refine Call_ (ld_blt I hg hm boot_enumerate (PyProof.Rows.callWith_type1 (thn (ha.run pos pins s σ H _ I h) fun us s1 ⟨vs, H1, I1, r1, a, xs, ex, hq, q⟩ => ?_) hs rfl))
  subst ex
  rw [Vals.ref1 r1]
  obtain ⟨its, rv, tp, _⟩ := I1.tuple hq
  have tp' : s1.heap.IsTuple a its.toArray := tp
  have lta : a < s1.heap.objs.size := by
    obtain ⟨_, z, _⟩ := tp'
    exact Heap.lt_size z
  refine enum1_at (begins_tuple a its.toArray) tp' fun h1 en hi hk => wpAny_pyIter_enum en ?_
  have I2 : Inv X pins σ H1 { s1 with heap := h1 } := I1.kept (t' := s1.toks) hk
  refine ⟨s1.heap.objs.size + 1, [s1.heap.objs.size + 1, s1.heap.objs.size], _, _, H1, rfl, I2, turn_enumT a (s1.heap.objs.size + 1) s1.heap.objs.size, ⟨⟨.none, en⟩, ⟨_, hi, rfl, rfl⟩, Nat.succ_ne_self _, Nat.ne_of_gt (Nat.lt_succ_of_lt lta), Nat.ne_of_lt lta⟩, fun b hb => ?_, q⟩
  have le : s1.heap.objs.size ≤ b := by
    rcases (by simpa using hb : b = s1.heap.objs.size + 1 ∨ b = s1.heap.objs.size) with rfl | rfl
    · exact Nat.le_succ _
    · exact Nat.le_refl _
  exact I1.fpOk le (I1.hok.fresh le)
/-- a loop over an enumerated tuple, by a word -/
def ForE (K : PySem.W.Frag) (a : Addr) := ForJ (IteT K a)
section
variable {K : PySem.W.Frag} {a : Addr} {xs : List V} {g : TG} {tb : TS} {D : Ends} {σ : L2.St} {H : Hp} {ta : TA} {tt : TT} {te : TE} {vs : List Nat} {Q : VK}
theorem rd_forE : tFor (iEnumT K ta) g tb D σ H = ta σ H fun us H1 => ∃ a xs, us = [.ref a] ∧ SqT K H1 a xs ∧ ForE K a g tb D σ H1 := rfl
theorem ForE.w (Pw : Nat → L2.St → Hp → Prop) (h0 : Pw 0 σ H) (hl : ∀ i σ H, i ≤ xs.length → Pw i σ H → SqT K H a xs)
    (hs : ∀ (i : Nat) (x : V) (T : Addr) σ H, xs[i]? = some x → Pw i σ H → H T = none → ∀ N : L2.St → Hp → Prop, (∀ σ' H', Pw (i + 1) σ' H' → N σ' H') → g (.ref T) σ (upd H T (.tup [.int (i : Nat), x])) fun σ2 H2 => tb { D with nx := N, ct := N, bk := D.nx } σ2 H2)
    (hd : ∀ σ H, Pw xs.length σ H → D.nx σ H) : ForE K a g tb D σ H := by
  refine ⟨fun i m σ H => m = xs.length - i ∧ i ≤ xs.length ∧ Pw i σ H, ⟨_, rfl, Nat.zero_le _, h0⟩, ?_⟩
  rintro i m σ H ⟨rfl, hi, p⟩
  have hq := hl i σ H hi p
  rcases Nat.lt_or_ge i xs.length with c | c
  · have hx : xs[i]? = some xs[i] := List.getElem?_eq_getElem c
    refine .inr ⟨⟨xs, _, hq, hx⟩, Pw (i + 1), fun σ' H' p' => ⟨xs.length - (i + 1), by omega, rfl, c, p'⟩, fun v H' y => ?_⟩
    obtain ⟨T, x, rfl, hT, rfl, f⟩ := y
    exact hs i x T σ H (f xs hq) p hT _ fun _ _ h => h
  · have e : i = xs.length := by omega
    subst e
    exact .inl ⟨⟨xs, hq, rfl⟩, hd σ H p⟩
/-- a comprehension over an enumerated tuple -/
def LcE (K : PySem.W.Frag) (a : Addr) := LcJ (IteT K a)
theorem rd_lcE : tLc (iEnumT K ta) g tt te vs σ H Q = ta σ H fun us H1 => ∃ a xs, us = [.ref a] ∧ SqT K H1 a xs ∧ LcE K a g tt te vs σ H1 Q := rfl
theorem LcE.w (Pw : Nat → Addr → List V → Hp → Prop) (h0 : ∀ D, H D = none → Pw 0 D [] (upd H D (.lst []))) (hl : ∀ D i ys H, i ≤ xs.length → Pw i D ys H → SqT K H a xs)
    (hs : ∀ D (i : Nat) x (T : Addr) ys H, xs[i]? = some x → Pw i D ys H → H T = none → ∀ N : Hp → Prop, (∀ ys' H', Pw (i + 1) D ys' H' → N H') → g (.ref T) (wipe σ vs) (upd H T (.tup [.int (i : Nat), x])) fun σ2 H2 => wipe σ2 vs = wipe σ vs ∧ tt σ2 H2 fun b H3 =>
      if b = true then te σ2 H3 fun y H4 => ∃ acc, H4 D = some (.lst acc) ∧ acc.length < sizeLine ∧ N (upd H4 D (.lst (acc ++ [y]))) else N H3) (hd : ∀ D ys H', H D = none → Pw xs.length D ys H' → Q (.ref D) H') : LcE K a g tt te vs σ H Q := by
  intro D hD
  refine ⟨fun i m H => m = xs.length - i ∧ i ≤ xs.length ∧ ∃ ys, Pw i D ys H, ⟨_, rfl, Nat.zero_le _, _, h0 D hD⟩, ?_⟩
  rintro i m H ⟨rfl, hi, ys, p⟩
  have hq := hl D i ys H hi p
  rcases Nat.lt_or_ge i xs.length with c | c
  · have hx : xs[i]? = some xs[i] := List.getElem?_eq_getElem c
    refine .inr ⟨⟨xs, _, hq, hx⟩, fun H' => ∃ ys, Pw (i + 1) D ys H', fun H' p' => ⟨xs.length - (i + 1), by omega, rfl, c, p'⟩, fun v H' y => ?_⟩
    obtain ⟨T, x, rfl, hT, rfl, f⟩ := y
    exact hs D i x T ys H (f xs hq) p hT _ fun ys' H' h => ⟨ys', h⟩
  · have e : i = xs.length := by omega
    subst e
    exact .inl ⟨⟨xs, hq, rfl⟩, hd D ys H hD p⟩
end
end CB
/-! the least of data alike, a list or a tuple; the place of a datum in a list -/
namespace CB
open PySem PySem.Spec PyProof.Rows L2
section
variable {X : Cx}
theorem un65 {k : Nat} {A : Around} (r : Room k A) : A.units + 65 < cLine := by
  have := r.un
  omega
theorem minD_in (x : PyData) : ∀ xs : List PyData, PySem.W.minD x xs ∈ x :: xs := by
  intro xs
  unfold PySem.W.minD
  induction xs generalizing x with
  | nil => exact List.mem_cons_self
  | cons y r ih =>
    rw [List.foldl_cons]
    have h := ih (if PySem.W.dataLt y x then y else x)
    rcases List.mem_cons.mp h with h | h
    · rw [h]
      split
      · exact List.mem_cons_of_mem _ List.mem_cons_self
      · exact List.mem_cons_self
    · exact List.mem_cons_of_mem _ (List.mem_cons_of_mem _ h)
theorem lay_of {x : PyData} : ∀ {xs : List PyData}, PyData.canLayAll0 xs = true → x ∈ xs → PyData.canLay0 x = true
  | [], _, h => by simp at h
  | y :: r, l, h => by
    have l' : (PyData.canLay0 y && PyData.canLayAll0 r) = true := l
    rw [Bool.and_eq_true] at l'
    rcases List.mem_cons.mp h with h | h
    · rw [h]; exact l'.1
    · exact lay_of l'.2 h
theorem read_one {h : Heap} {v : Value} {d d' : PyData} {as bs : List Addr} (r : Reads h v d as) (r' : Reads h v d' bs) (l : PyData.canLay0 d = true) (l' : PyData.canLay0 d' = true) : d = d' := by
  have e1 := SeqAt.readsAll_map [d] [v] _ (by show (PyData.canLay0 d && true) = true; rw [l]; rfl) (.cons r .nil)
  have e2 := SeqAt.readsAll_map [d'] [v] _ (by show (PyData.canLay0 d' && true) = true; rw [l']; rfl) (.cons r' .nil)
  rw [e1] at e2
  exact (List.cons.inj e2).1
/-- min(xs), xs a list or a tuple of data alike -/
def rMinD (K : PySem.W.Frag) : List V → Hp → VK → Prop := fun vs H Q => ∃ (a : Addr) (ys : List V) (x : PyData) (xs : List PyData), vs = [V.ref a] ∧ (SqL K H a ys ∨ SqT K H a ys) ∧ DpAll K H ys (x :: xs) ∧ PyData.canLayAll0 (x :: xs) = true ∧ PySem.W.AlikeAll (x :: xs) ∧ PyData.depthAll (x :: xs) ≤ 60 ∧
  ∀ (i : Nat) v, ys[i]? = some v → (x :: xs)[i]? = some (PySem.W.minD x xs) → Q v H
theorem cr_minD (hc : X.calm = true) (hu : X.A.units + 65 < cLine) : CallR X (.builtin "min") (rMinD X.K) := by
  intro pins s σ H vs us Q I r h
  obtain ⟨a, ys, x, xs, rfl, hs, hd, lay, al, dp, q⟩ := h
  rw [Vals.ref1 r]
  have fin : ∀ {its : List Value} {as : List Addr} {i : Nat} {v : Value} {h' : Heap} {tk : Nat} {bs : List Addr}, Vals ys its → ReadsAll s.heap its (x :: xs) as → its.toArray[i]? = some v → Reads h' v (PySem.W.minD x xs) bs → (∀ b o, s.heap.get? b = some o → h'.get? b = some o) →
      (∃ y H', Inv X pins σ H' { s with heap := h', toks := tk } ∧ RelV y v ∧ Q y H') := fun {its as i v h' tk bs} rv ra hv rd hk => by
    have hv' : its[i]? = some v := by simpa using hv
    obtain ⟨b2, r2, hi, _, _⟩ := PySem.W.readsAll_at ra i v hv'
    have hx : (x :: xs)[i]? = some ((x :: xs).getD i .none) := by
      rw [List.getD_eq_getElem?_getD, List.getElem?_eq_getElem hi]
      rfl
    have mem := List.mem_of_getElem? hx
    have e := read_one (Reads.keeps hk r2) rd (lay_of lay mem) (lay_of lay (minD_in x xs))
    have hl := rv.length
    have hil : i < its.length := by
      obtain ⟨z, _⟩ := List.getElem?_eq_some_iff.mp hv'
      exact z
    have hy : ys[i]? = some ys[i] := List.getElem?_eq_getElem (by omega)
    obtain ⟨u, hu, ru⟩ := rv.get hy
    rw [hu] at hv'
    cases hv'
    exact ⟨ys[i], H, I.kept hk, ru, q i _ hy (by rw [hx, e])⟩
  have ar : X.A.units + 1 + PyData.depthAll (x :: xs) < cLine := by omega
  rcases hs with hs | hs
  · obtain ⟨its, rv, hl, _⟩ := I.list hs
    obtain ⟨as, ra⟩ := Dp.readsAll I _ _ its hd rv
    exact PySem.W.min_list_data (I.ok.hd hc) hl.isList (by simpa using ra) al ar fun i v h' tk bs hv rd hk => fin rv ra hv rd hk
  · obtain ⟨its, rv, hl, _⟩ := I.tuple hs
    obtain ⟨as, ra⟩ := Dp.readsAll I _ _ its hd rv
    exact PySem.W.min_tuple_data (I.ok.hd hc) (show s.heap.IsTuple a its.toArray from hl) (by simpa using ra) al ar fun i v h' tk bs hv rd hk => fin rv ra hv rd hk
theorem rd_minD {K : PySem.W.Frag} {vs : List V} {H : Hp} {Q : VK} : rMinD K vs H Q = ∃ (a : Addr) (ys : List V) (x : PyData) (xs : List PyData), vs = [V.ref a] ∧ (SqL K H a ys ∨ SqT K H a ys) ∧ DpAll K H ys (x :: xs) ∧ PyData.canLayAll0 (x :: xs) = true ∧ PySem.W.AlikeAll (x :: xs) ∧ PyData.depthAll (x :: xs) ≤ 60 ∧
  ∀ (i : Nat) v, ys[i]? = some v → (x :: xs)[i]? = some (PySem.W.minD x xs) → Q v H := rfl
theorem rd_indexD {K : PySem.W.Frag} {x : V} {xs : List V} {H : Hp} {Q : VK} : rIndexD K x xs H Q = ∃ (a : Addr) (y : V) (d : PyData) (ds : List PyData) (j : Nat) (z : PyData), x = V.ref a ∧ xs = [y] ∧ Dp K H (V.ref a) (.list ds) ∧ Dp K H y d ∧
  SeqAt.shaped (.list ds) = true ∧ SeqAt.shaped d = true ∧ ds[j]? = some z ∧ PyData.eqv z d = true ∧ (∀ (m : Nat) (z' : PyData), m < j → ds[m]? = some z' → PyData.eqv z' d = false) ∧ Q (.int (j : Nat)) H := rfl
end
end CB
/-! divmod; comprehensions by what holds beside the list that is made -/
namespace CB
open PySem PySem.Spec PyProof.Rows L2
/-! ### divmod of any size -/
def rDm : List V → Hp → VK → Prop := fun xs H Q => ∃ i j : Int, xs = [.int i, .int j] ∧ CDivP i j ∧ ∀ p, H p = none → Q (.ref p) (upd H p (.tup [.int (i / j), .int (i % j)]))
theorem cr_dm {X : Cx} : CallR X (.builtin "divmod") rDm := call_divmodW
theorem rd_dm {xs : List V} {H : Hp} {Q : VK} : rDm xs H Q = ∃ i j : Int, xs = [.int i, .int j] ∧ CDivP i j ∧ ∀ p, H p = none → Q (.ref p) (upd H p (.tup [.int (i / j), .int (i % j)])) := rfl
/-! ### a comprehension: what holds beside the list that is made -/
section
variable {K : PySem.W.Frag} {a : Addr} {xs : List V} {g : TG} {tt : TT} {te : TE} {vs : List Nat} {σ : L2.St} {H : Hp} {Q : VK} {lo : Int} {n : Nat}
/-- lists made since H stand as they were -/
def Kn (H H1 H2 : Hp) : Prop := ∀ D l, H D = none → H1 D = some (.lst l) → H2 D = some (.lst l)
theorem Kn.same {H H1 H2 : Hp} (s : Same H1 H2) : Kn H H1 H2 := fun D l _ e => s _ _ e
theorem Kn.refl {H H1 : Hp} : Kn H H1 H1 := fun _ _ _ e => e
theorem Kn.trans {H H1 H2 H3 : Hp} (a : Kn H H1 H2) (b : Kn H H2 H3) : Kn H H1 H3 := fun D l n e => b D l n (a D l n e)
/-- what does not speak of lists made since H -/
def Ind (H : Hp) (I : Hp → Prop) : Prop := ∀ H1 D l l', I H1 → H D = none → H1 D = some (.lst l) → I (upd H1 D (.lst l'))
theorem same_updD {H H1 : Hp} {D : Addr} {o : HO} (s : Same H H1) (n : H D = none) : Same H (upd H1 D o) := fun b x e => by
  rw [upd_ne (ne_of_none e n)]
  exact s _ _ e
theorem Ind.same {H : Hp} : Ind H (Same H) := fun H1 D l l' s n _ => same_updD s n
abbrev Turn1 (H : Hp) (g : TG) (tt : TT) (te : TE) (vs : List Nat) (σ : L2.St) (I : Nat → List V → Hp → Prop) (i : Nat) (x : V) : Prop :=
  ∀ zs H1, I i zs H1 → ∀ (M : VK) (S : Hp → Prop), (∀ v H2, Kn H H1 H2 → I (i + 1) (zs ++ [v]) H2 → M v H2) → (∀ H2, Kn H H1 H2 → I (i + 1) zs H2 → S H2) →
    g x (wipe σ vs) H1 fun σ2 H2 => wipe σ2 vs = wipe σ vs ∧ tt σ2 H2 fun b H3 => if b = true then te σ2 H3 M else S H3
theorem turn1 {I : Nat → List V → Hp → Prop} {i : Nat} {x : V} (hi : ∀ i zs, Ind H (I i zs)) (hz : ∀ i zs H1, I i zs H1 → zs.length < sizeLine) (t : Turn1 H g tt te vs σ I i x) {D : Addr} (nD : H D = none) {zs : List V} {H1 : Hp}
    (p : I i zs H1 ∧ H1 D = some (.lst zs)) {N : Hp → Prop} (hN : ∀ ys' H', I (i + 1) ys' H' ∧ H' D = some (.lst ys') → N H') : g x (wipe σ vs) H1 fun σ2 H2 => wipe σ2 vs = wipe σ vs ∧ tt σ2 H2 fun b H3 =>
      if b = true then te σ2 H3 fun y H4 => ∃ acc, H4 D = some (.lst acc) ∧ acc.length < sizeLine ∧ N (upd H4 D (.lst (acc ++ [y]))) else N H3 :=
  t zs H1 p.1 (fun y H4 => ∃ acc, H4 D = some (.lst acc) ∧ acc.length < sizeLine ∧ N (upd H4 D (.lst (acc ++ [y])))) N
    (fun v H2 k q => ⟨zs, k D zs nD p.2, hz _ _ _ p.1, hN (zs ++ [v]) _ ⟨hi _ _ H2 D zs _ q nD (k D zs nD p.2), upd_same⟩⟩) (fun H2 k q => hN zs _ ⟨q, k D zs nD p.2⟩)
theorem LcT.i (I : Nat → List V → Hp → Prop) (hi : ∀ i zs, Ind H (I i zs)) (h0 : ∀ H1, Same H H1 → I 0 [] H1) (hl : ∀ i zs H1, I i zs H1 → SqT K H1 a xs) (hz : ∀ i zs H1, I i zs H1 → zs.length < sizeLine)
    (hs : ∀ i x, xs[i]? = some x → Turn1 H g tt te vs σ I i x) (hd : ∀ D zs H', H D = none → I xs.length zs H' → H' D = some (.lst zs) → Q (.ref D) H') : LcT K a g tt te vs σ H Q :=
  LcT.w (xs := xs) (fun i D zs H1 => (I i zs H1 ∧ H1 D = some (.lst zs)) ∧ H D = none) (fun D nD => ⟨⟨h0 _ (same_upd nD), upd_same⟩, nD⟩) (fun D i zs H1 _ p => hl i zs H1 p.1.1)
    (fun D i x zs H1 hx p N hN => turn1 hi hz (hs i x hx) p.2 p.1 fun ys' H' q => hN ys' H' ⟨q, p.2⟩) (fun D zs H' _ p => hd D zs H' p.2 p.1.1 p.1.2)
theorem LcL.i (I : Nat → List V → Hp → Prop) (hi : ∀ i zs, Ind H (I i zs)) (h0 : ∀ H1, Same H H1 → I 0 [] H1) (hl : ∀ i zs H1, I i zs H1 → SqL K H1 a xs) (hz : ∀ i zs H1, I i zs H1 → zs.length < sizeLine)
    (hs : ∀ i x, xs[i]? = some x → Turn1 H g tt te vs σ I i x) (hd : ∀ D zs H', H D = none → I xs.length zs H' → H' D = some (.lst zs) → Q (.ref D) H') : LcL K a g tt te vs σ H Q :=
  LcL.w (xs := xs) (fun i D zs H1 => (I i zs H1 ∧ H1 D = some (.lst zs)) ∧ H D = none) (fun D nD => ⟨⟨h0 _ (same_upd nD), upd_same⟩, nD⟩) (fun D i zs H1 _ p => hl i zs H1 p.1.1)
    (fun D i x zs H1 hx p N hN => turn1 hi hz (hs i x hx) p.2 p.1 fun ys' H' q => hN ys' H' ⟨q, p.2⟩) (fun D zs H' _ p => hd D zs H' p.2 p.1.1 p.1.2)
theorem LcR.i (I : Nat → List V → Hp → Prop) (hi : ∀ i zs, Ind H (I i zs)) (h0 : ∀ H1, Same H H1 → I 0 [] H1) (hz : ∀ i zs H1, I i zs H1 → zs.length < sizeLine)
    (hs : ∀ i, i < n → Turn1 H g tt te vs σ I i (.int (lo + i))) (hd : ∀ D zs H', H D = none → I n zs H' → H' D = some (.lst zs) → Q (.ref D) H') : LcR lo n g tt te vs σ H Q :=
  LcR.w (fun i D zs H1 => (I i zs H1 ∧ H1 D = some (.lst zs)) ∧ H D = none) (fun D nD => ⟨⟨h0 _ (same_upd nD), upd_same⟩, nD⟩)
    (fun D i zs H1 hx p N hN => turn1 hi hz (hs i hx) p.2 p.1 fun ys' H' q => hN ys' H' ⟨q, p.2⟩) (fun D zs H' _ p => hd D zs H' p.2 p.1.1 p.1.2)
/-- the items are told: y i is what the turn i adds, if it adds any -/
def pureI (H : Hp) (m : Nat) (y : Nat → Option V) (i : Nat) (zs : List V) (H1 : Hp) : Prop := Same H H1 ∧ zs = (List.range i).filterMap y ∧ i ≤ m
abbrev Turn2 (H : Hp) (g : TG) (tt : TT) (te : TE) (vs : List Nat) (σ : L2.St) (y : Option V) (x : V) : Prop :=
  ∀ H1, Same H H1 → ∀ (M : VK) (S : Hp → Prop), (∀ v H2, y = some v → Same H1 H2 → M v H2) → (∀ H2, y = none → Same H1 H2 → S H2) →
    g x (wipe σ vs) H1 fun σ2 H2 => wipe σ2 vs = wipe σ vs ∧ tt σ2 H2 fun b H3 => if b = true then te σ2 H3 M else S H3
theorem turn2 {m : Nat} {y : Nat → Option V} {i : Nat} {x : V} (hm : i < m) (t : Turn2 H g tt te vs σ (y i) x) : Turn1 H g tt te vs σ (pureI H m y) i x := by
  rintro zs H1 ⟨s1, rfl, _⟩ M S hM hS
  refine t H1 s1 M S (fun v H2 e s2 => hM v H2 (.same s2) ⟨s1.trans s2, ?_, hm⟩) (fun H2 e s2 => hS H2 (.same s2) ⟨s1.trans s2, ?_, hm⟩)
  · rw [List.range_succ, List.filterMap_append, List.filterMap_cons, e]
    rfl
  · rw [List.range_succ, List.filterMap_append, List.filterMap_cons, e, List.filterMap_nil, List.append_nil]
theorem pureI.ind {m : Nat} {y : Nat → Option V} (i : Nat) (zs : List V) : Ind H (pureI H m y i zs) := fun H1 D l l' p n _ => ⟨same_updD p.1 n, p.2⟩
theorem pureI.z {m : Nat} {y : Nat → Option V} (hm : m ≤ 10000000) (i : Nat) (zs : List V) (H1 : Hp) (p : pureI H m y i zs H1) : zs.length < sizeLine := by
  obtain ⟨_, rfl, hi⟩ := p
  have := List.length_filterMap_le y (List.range i)
  rw [List.length_range] at this
  rw [PySem.sizeLine_eq]
  omega
theorem LcT.p (y : Nat → Option V) (hm : xs.length ≤ 10000000) (hx : ∀ H1, Same H H1 → SqT K H1 a xs) (hs : ∀ i x, xs[i]? = some x → Turn2 H g tt te vs σ (y i) x)
    (hd : ∀ D H', H D = none → Same H H' → H' D = some (.lst ((List.range xs.length).filterMap y)) → Q (.ref D) H') : LcT K a g tt te vs σ H Q :=
  LcT.i (pureI H xs.length y) pureI.ind (fun H1 s => ⟨s, rfl, Nat.zero_le _⟩) (fun i zs H1 p => hx H1 p.1) (pureI.z hm) (fun i x h => turn2 (List.getElem?_eq_some_iff.mp h).1 (hs i x h)) (fun D zs H' nD p e => hd D H' nD p.1 (by rw [← p.2.1]; exact e))
theorem LcL.p (y : Nat → Option V) (hm : xs.length ≤ 10000000) (hx : ∀ H1, Same H H1 → SqL K H1 a xs) (hs : ∀ i x, xs[i]? = some x → Turn2 H g tt te vs σ (y i) x)
    (hd : ∀ D H', H D = none → Same H H' → H' D = some (.lst ((List.range xs.length).filterMap y)) → Q (.ref D) H') : LcL K a g tt te vs σ H Q :=
  LcL.i (pureI H xs.length y) pureI.ind (fun H1 s => ⟨s, rfl, Nat.zero_le _⟩) (fun i zs H1 p => hx H1 p.1) (pureI.z hm) (fun i x h => turn2 (List.getElem?_eq_some_iff.mp h).1 (hs i x h)) (fun D zs H' nD p e => hd D H' nD p.1 (by rw [← p.2.1]; exact e))
theorem LcR.p (y : Nat → Option V) (hm : n ≤ 10000000) (hs : ∀ i, i < n → Turn2 H g tt te vs σ (y i) (.int (lo + i)))
    (hd : ∀ D H', H D = none → Same H H' → H' D = some (.lst ((List.range n).filterMap y)) → Q (.ref D) H') : LcR lo n g tt te vs σ H Q :=
  LcR.i (pureI H n y) pureI.ind (fun H1 s => ⟨s, rfl, Nat.zero_le _⟩) (pureI.z hm) (fun i h => turn2 h (hs i h)) (fun D zs H' nD p e => hd D H' nD p.1 (by rw [← p.2.1]; exact e))
end
theorem small_size {n : Nat} (h : n ≤ 10000000) : n < sizeLine := by rw [PySem.sizeLine_eq]; omega
theorem iabs (i : Int) : (if i < 0 then -i else i) = (i.natAbs : Int) := by
  split <;> omega
theorem fm_self {α : Type} : ∀ l : List α, (List.range l.length).filterMap (fun i => l[i]?) = l
  | [] => rfl
  | a :: l => by
    rw [List.length_cons, List.range_succ_eq_map, List.filterMap_cons, List.filterMap_map]
    show a :: _ = _
    congr 1
    exact fm_self l
theorem fm_get {α β : Type} (l : List α) (g : α → Option β) : (List.range l.length).filterMap (fun i => l[i]?.bind g) = l.filterMap g := by
  rw [← List.filterMap_filterMap, fm_self]
theorem fm_ite {α β : Type} (l : List α) (p : α → Bool) (f : α → β) : l.filterMap (fun a => if p a = true then some (f a) else none) = (l.filter p).map f := by
  induction l with
  | nil => rfl
  | cons a l ih =>
    rw [List.filterMap_cons, List.filter_cons]
    by_cases h : p a = true
    · rw [if_pos h, if_pos h, List.map_cons, ← ih]
    · rw [if_neg h, if_neg h, ← ih]
theorem lg_int {n : Int} (h : n.natAbs ≤ 1000000000000000000000000) : n.natAbs.log2 < 9000 := by
  have := log_lt (n := n.natAbs) (k := 80) (Nat.lt_of_le_of_lt h (by decide))
  omega
/-- a def that is never called so -/
def spNev : Sp := fun _ _ _ _ => False
theorem Dn.never {P : Program} {w : World} {K : PySem.W.Frag} {mg : Str → Option Value} {base : Heap} {x : Str} {st : Stmt} {N ps : List Str} (D : Dn K mg x st ps) (S : FnScope N ps (defScope st)) : Cal P w K mg base x 1 ps spNev :=
  D.cal S (fun _ _ _ _ h => h.elim) (fun _ _ _ _ _ _ _ _ _ _ h => h.elim)
theorem ixNk {n j : Nat} (hj : j < n) : ixN n (j : Int) = some j := by
  have h1 : (0 : Int) ≤ (j : Int) := by omega
  have h2 : (j : Int) < (n : Int) := by omega
  unfold ixN
  rw [if_pos h1, if_pos h2, Int.toNat_natCast]
/-- targets within a comprehension -/
theorem pg_tupK {X : Cx} {K : PySem.W.Frag} {es : List Expr} {k : Nat} {pos : Pos} {t : TGs} {n : Nat} (hK : X.K = K) (hc : X.calm = true) (h : PGs X es t)
    (hn : (assignEach es X.env).length = n) (hst : (assignEach es X.env).findIdx? (·.1) = none) : PG X (.Tuple es k pos) (gTup K n t) := by
  subst hK
  exact pg_tup hc h hn hst
/-! ### tuples of ints -/
section
variable {K : PySem.W.Frag} {H : Hp}
def dIs (ns : List Int) : PyData := .tuple (ns.map PyData.int)
theorem lay_ints : ∀ ts : List Int, PyData.canLayAll0 (ts.map PyData.int) = true
  | [] => rfl
  | t :: ts => by
    show (PyData.canLay0 (.int t) && PyData.canLayAll0 (ts.map PyData.int)) = true
    rw [lay_ints ts]
    rfl
theorem depth_ints : ∀ ts : List Int, PyData.depthAll (ts.map PyData.int) ≤ 1
  | [] => by decide
  | t :: ts => by
    have := depth_ints ts
    show max (PyData.depth (.int t)) (PyData.depthAll (ts.map PyData.int)) ≤ 1
    have e : PyData.depth (.int t) = 0 := rfl
    omega
theorem shaped_ints (ts : List Int) : SeqAt.shaped (dIs ts) = true := by
  unfold SeqAt.shaped dIs
  have a : PyData.canLay0 (.tuple (ts.map PyData.int)) = true := lay_ints ts
  have b : PyData.depth (.tuple (ts.map PyData.int)) ≤ 64 := by
    have := depth_ints ts
    show PyData.depthAll (ts.map PyData.int) + 1 ≤ 64
    omega
  rw [a, decide_eq_true b]
  rfl
theorem eqvAll_ints : ∀ xs ys : List Int, PyData.eqvAll (xs.map PyData.int) (ys.map PyData.int) = decide (xs = ys)
  | [], [] => rfl
  | [], _ :: _ => rfl
  | _ :: _, [] => rfl
  | x :: xs, y :: ys => by
    show ((x == y) && PyData.eqvAll (xs.map PyData.int) (ys.map PyData.int)) = _
    rw [eqvAll_ints xs ys]
    by_cases h1 : x = y
    · by_cases h2 : xs = ys
      · simp [h1, h2]
      · simp [h2]
    · simp [h1]
theorem eqv_ints (xs ys : List Int) : PyData.eqv (dIs xs) (dIs ys) = decide (xs = ys) := eqvAll_ints xs ys
theorem dp_I {p : Addr} {ns : List Int} (h : H p = some (.tup (ns.map V.int))) : Dp K H (.ref p) (dIs ns) := .tup (SqT.of h) (dp_ints ns)
end
/-! ### sums, slices, multiples of tuples of any size; isinstance of several classes -/
theorem rd_catA {K : PySem.W.Frag} {x y : V} {H : Hp} {Q : VK} : rCatA K x y H Q = ∃ a b xs ys, x = .ref a ∧ y = .ref b ∧ SqT K H a xs ∧ SqT K H b ys ∧ xs.length + ys.length ≤ sizeLine ∧
  (xs = [] → Q (.ref b) H) ∧ (xs ≠ [] → ys = [] → Q (.ref a) H) ∧ (xs ≠ [] → ys ≠ [] → ∀ p, H p = none → Q (.ref p) (upd H p (.tup (xs ++ ys)))) := rfl
theorem rd_slA {K : PySem.W.Frag} {x : V} {lo hi : Option Int} {H : Hp} {Q : VK} : rSlA K x lo hi H Q = ∃ a xs, x = .ref a ∧ SqT K H a xs ∧
  (HT.sIx xs.length 0 lo = 0 ∧ HT.sIx xs.length xs.length hi = xs.length → Q (.ref a) H) ∧ (¬ (HT.sIx xs.length 0 lo = 0 ∧ HT.sIx xs.length xs.length hi = xs.length) → ∀ p, H p = none → Q (.ref p) (upd H p (.tup (cutV xs lo hi)))) := rfl
theorem rd_repT {K : PySem.W.Frag} {x y : V} {H : Hp} {Q : VK} : rRepT K x y H Q = ∃ l k xs, x = .ref l ∧ y = .int k ∧ SqT K H l xs ∧ xs ≠ [] ∧ 2 ≤ k ∧ k ≤ 1000 ∧ xs.length ≤ 1000 ∧ ∀ p, H p = none → Q (.ref p) (upd H p (.tup (List.replicate k.toNat xs).flatten)) := rfl
theorem rd_isiT {K : PySem.W.Frag} {xs : List V} {H : Hp} {Q : VK} : rIsiT K xs H Q = ∃ (x : V) (tp : Addr) (cs : List V) (t : Value) (us : List Value) (b : Bool), xs = [x, .ref tp] ∧ H tp = some (.tup cs) ∧ Paired ClsV cs us ∧ TyX K H x t ∧ PySem.W.kitAny K t us = some b ∧ Q (.bl b) H := rfl
theorem isiT_mk {K : PySem.W.Frag} {x : V} {T t1 t2 : String} {b1 b2 : Bool} {H : Hp} {tp : Addr} {Q : VK} (hT : H tp = some (.tup [.ty t1, .ty t2])) (ty : TyX K H x (.type T)) (e1 : kitB T t1 = some b1) (e2 : kitB T t2 = some b2) (q : Q (.bl (b1 || b2)) H) : rIsiT K [x, .ref tp] H Q := by
  refine ⟨x, tp, _, _, [.type t1, .type t2], b1 || b2, rfl, hT, .cons (.ty t1) (.cons (.ty t2) .nil), ty, kitAny_cons (kit_ty e1) (fun h => kitAny_cons (r := b1 || b2) (kit_ty e2) (fun h2 => ?_) (fun h2 => ?_)) (fun h => ?_), q⟩
  · rw [h, h2]; rfl
  · rw [h2, Bool.or_true]
  · rw [h]; rfl
/-! ### rows of ints that stand in a list or a tuple -/
def RowsAt (H : Hp) (xs : List V) (rs : List (List Int)) : Prop := xs.length = rs.length ∧ ∀ (i : Nat) (r : List Int), rs[i]? = some r → ∃ p : Addr, xs[i]? = some (V.ref p) ∧ H p = some (.tup (r.map V.int))
section
variable {K : PySem.W.Frag} {H H' : Hp} {xs : List V} {rs : List (List Int)}
theorem RowsAt.nil : RowsAt H [] [] := ⟨rfl, fun i r e => by simp at e⟩
theorem RowsAt.same (h : RowsAt H xs rs) (s : Same H H') : RowsAt H' xs rs := ⟨h.1, fun i r e => by
  obtain ⟨p, h1, h2⟩ := h.2 i r e
  exact ⟨p, h1, s _ _ h2⟩⟩
theorem RowsAt.snoc {p : Addr} {r : List Int} (h : RowsAt H xs rs) (hp : H p = some (.tup (r.map V.int))) : RowsAt H (xs ++ [V.ref p]) (rs ++ [r]) := by
  refine ⟨by rw [List.length_append, List.length_append, h.1]; rfl, fun i r' e => ?_⟩
  rcases Nat.lt_or_ge i rs.length with c | c
  · rw [List.getElem?_append_left c] at e
    rw [List.getElem?_append_left (by rw [h.1]; exact c)]
    exact h.2 i r' e
  · rw [List.getElem?_append_right c] at e
    rw [List.getElem?_append_right (by rw [h.1]; exact c), h.1]
    cases hi : i - rs.length with
    | zero =>
      rw [hi] at e
      cases e
      exact ⟨p, rfl, hp⟩
    | succ n => rw [hi] at e; simp at e
theorem RowsAt.get (h : RowsAt H xs rs) {i : Nat} {v : V} (e : xs[i]? = some v) : ∃ p r, v = .ref p ∧ rs[i]? = some r ∧ H p = some (.tup (r.map V.int)) := by
  have hi : i < rs.length := by
    rw [← h.1]
    exact (List.getElem?_eq_some_iff.mp e).1
  obtain ⟨p, h1, h2⟩ := h.2 i _ (List.getElem?_eq_getElem hi)
  rw [e] at h1
  cases h1
  exact ⟨p, _, rfl, List.getElem?_eq_getElem hi, h2⟩
theorem RowsAt.updL {D : Addr} {l : List V} {o : HO} (h : RowsAt H xs rs) (hD : H D = some (.lst l)) : RowsAt (upd H D o) xs rs := ⟨h.1, fun i r e => by
  obtain ⟨p, h1, h2⟩ := h.2 i r e
  refine ⟨p, h1, ?_⟩
  rw [upd_ne (ne_of h2 hD (by intro z; cases z))]
  exact h2⟩
end
end CB
/-! a list stored into a slice of a list: from a place on, and from a place on with a step -/
namespace CB
open PySem PySem.Spec PyProof.Rows L2
/-- the items behind the store -/
def putS {α : Type} (xs ys : List α) (d e st : Nat) : List α := if st = 1 then xs.take d ++ ys ++ xs.drop (max d e) else
  (((List.range ys.length).map fun k => d + st * k).zip ys).foldl (fun zs q => zs.set q.1 q.2) xs
theorem foldl_set_map {α β : Type} (f : α → β) : ∀ (ps : List (Nat × α)) (xs : List α), (ps.map fun q => (q.1, f q.2)).foldl (fun zs q => zs.set q.1 q.2) (xs.map f) = (ps.foldl (fun zs q => zs.set q.1 q.2) xs).map f
  | [], _ => rfl
  | q :: ps, xs => by
    show (ps.map fun q => (q.1, f q.2)).foldl (fun zs q => zs.set q.1 q.2) ((xs.map f).set q.1 (f q.2)) = _
    rw [← List.map_set, foldl_set_map f ps]
    rfl
theorem foldl_set_len {α : Type} : ∀ (ps : List (Nat × α)) (xs : List α), (ps.foldl (fun zs q => zs.set q.1 q.2) xs).length = xs.length
  | [], _ => rfl
  | q :: ps, xs => by
    show (ps.foldl (fun zs q => zs.set q.1 q.2) (xs.set q.1 q.2)).length = _
    rw [foldl_set_len ps, List.length_set]
theorem vals_foldl : ∀ {ys : List V} {us : List Value} (ks : List Nat) {xs : List V} {ts : List Value}, Vals ys us → Vals xs ts →
    Vals ((ks.zip ys).foldl (fun zs q => zs.set q.1 q.2) xs) ((ks.zip us).foldl (fun zs q => zs.set q.1 q.2) ts)
  | _, _, [], _, _, _, r => r
  | _, _, k :: ks, _, _, .nil, r => r
  | _, _, k :: ks, _, _, .cons h t, r => vals_foldl ks t (r.set h k)
theorem arr_foldl {α : Type} : ∀ (ps : List (Nat × α)) (xs : List α), ps.foldl (fun (zs : Array α) q => zs.setIfInBounds q.1 q.2) xs.toArray = (ps.foldl (fun zs q => zs.set q.1 q.2) xs).toArray
  | [], _ => rfl
  | q :: ps, xs => by
    show ps.foldl _ (xs.toArray.setIfInBounds q.1 q.2) = _
    rw [List.setIfInBounds_toArray, arr_foldl ps]
    rfl
section
variable {prog : Program} {w : World} {A : Around} {E : Value → Shared → Prop} {s : Shared}
theorem bounds_from {d n : Nat} {st : Option Int} (hd : d ≤ n) (h1 : 0 < st.getD 1) : sliceBounds (some (d : Int)) none st n = ((d : Int), (n : Int), st.getD 1) := by
  simp only [sliceBounds]
  have a : ¬ ((d : Int) < 0) := by omega
  simp only [a, h1, gt_iff_lt, if_true, if_false]
  congr 1
  omega
/-- the write of a list's slots, whatever it is -/
theorem store_slice {l b sl : Addr} {us ws : Array Value} {n m d st : Nat} {vl vs : Value} {so : Option Int} {Q : Unit → Shared → Prop}
    (hl : s.heap.get? l = some { cls := .type "list", data := .seq us n }) (hb : s.heap.get? b = some { cls := .type "list", data := .seq ws m }) (ne : l ≠ b)
    (hs : s.heap.IsSliceOf sl vl .none vs) (pl : IsPart vl (some (d : Int))) (ps : IsPart vs so) (hso : so.getD 1 = (st : Int)) (s0 : 0 < st) (hd : d ≤ us.size)
    (hz : us.size + ws.size ≤ sizeLine) (hc : st ≠ 1 → ws.size = (sliceRange (d : Int) (us.size : Int) (st : Int)).length)
    (h : Q () { s with heap := s.heap.update l (Obj.mapSeq fun xs => if st = 1 then xs.extract 0 d ++ ws ++ xs.extract (max d us.size) xs.size else
      ((sliceRange (d : Int) (us.size : Int) (st : Int)).zip ws.toList).foldl (fun xs q => xs.setIfInBounds q.1 q.2) xs) }) :
    wpAny (model prog w) A (setItem (.ref l) (.ref sl) (.ref b)) Q E s := by
  have il := PySem.IsL.isList hl
  have ib := PySem.IsL.isList hb
  obtain ⟨os, hos, hcs, hds⟩ := id hs
  have ty : s.TypeIs (.ref sl) "slice" := ⟨os, hos, hcs⟩
  have s1 : so ≠ some 0 := fun z => by rw [z] at hso; have : (0 : Int) = (st : Int) := hso; omega
  have raw0 : ¬ ((rawPart so == rawInt 0) = true) := by
    cases so with
    | none => exact Bool.false_ne_true
    | some c => exact fun z => s1 (by have : c = 0 := by simpa [rawPart, rawInt] using z
                                      rw [this])
  have diff : Builtin.List.listSameRef (.ref l) (.ref b) = false := beq_eq_false_iff_ne.mpr ne
  have mx : (max (d : Int) (us.size : Int)).toNat = max d us.size := by omega
  unfold setItem
  try with_reducible refine wpAny_holding ?_
  first | refine wpAny_bind (wpAny_pure ?_) | skip
  refine wpAny_bind (wpAny_sequenceKey il.typeIs (by decide) (wpAny_bind (wpAny_callSpecial?_slot (name := Str.ofString "__setitem__") il.typeIs slot_list_setitem (wpAny_call_entry slot_list_setitem il.typeIs entry_list_setitem ?_ (args_list_setitem _ _ _)))))
  show wpAny _ _ (Builtin.List.listSubscript? (.ref sl) >>= fun _ => _) _ _ s
  refine wpAny_bind (m := Builtin.List.listSubscript? (.ref sl)) ?_
  unfold Builtin.List.listSubscript?
  refine wpAny_bind (wpAny_specialOf ty slice_no_index ?_)
  rw [if_pos (by rfl)]
  refine wpAny_pure ?_
  show wpAny _ _ (typeOf (.ref sl) >>= fun _ => _) _ _ s
  refine wpAny_bind (wpAny_typeOf ty ?_)
  first | rw [if_neg (by decide)] | refine PySem.W.KFB.if_not (by decide) ?_
  rw [listSliceParts_eq]
  refine wpAny_bind (wpAny_bind (wpAny_field hos hds (x := vs) rfl (wpAny_bind (wpAny_listPart ps ?_))))
  rw [if_neg raw0]
  refine wpAny_bind (wpAny_field hos hds (x := vl) rfl (wpAny_bind (wpAny_listPart pl (wpAny_bind (wpAny_field hos hds (x := .none) rfl (wpAny_bind (wpAny_listPart .none (wpAny_pure ?_))))))))
  first
    | refine PySem.W.KFB.if_not diff ?_
    | (dsimp only
       rw [if_neg (by rw [diff]; exact Bool.false_ne_true)])
  refine wpAny_bind (m := Builtin.List.listAllItems (.ref b) "must assign iterable to extended slice") ?_
  unfold Builtin.List.listAllItems
  refine wpAny_bind (wpAny_typeOf ib.typeIs ?_)
  first | refine PySem.W.KFB.if_so (by decide) ?_ | rw [if_pos (by decide)]
  unfold Builtin.List.listItems
  refine wpAny_bind (wpAny_seqItems hb rfl (wpAny_pure (wpAny_bind (wpAny_bind (wpAny_seqItems hl rfl (wpAny_pure ?_))))))
  refine wpAny_bind (wpAny_of_eq ((sliceIndices_raw (some (d : Int)) none so us.size s1).trans (congrArg (pure : Int × Int × Int → Sem (Int × Int × Int)) (bounds_from hd (by omega)))) ?_)
  rw [hso]
  show wpAny _ _ (if ((st : Int) == 1) = true then _ else _) _ _ s
  by_cases one : st = 1
  · subst one
    rw [if_pos (by decide)]
    refine wpAny_bind (wpAny_rule ?_)
    first | refine PySem.W.KFB.if_not (notLongL hz) ?_ | (rw [notLongL hz, if_neg Bool.false_ne_true])
    first | refine wpAny_bind (wpAny_pure ?_) | skip
    show wpAny _ _ (updateSeq l (fun xs => xs.extract 0 ((d : Int)).toNat ++ ws ++ xs.extract (max (d : Int) (us.size : Int)).toNat xs.size) >>= fun _ => _) _ _ s
    rw [mx, Int.toNat_natCast]
    refine wpAny_bind (wpAny_updateSeq (hz := by omega) (_hz' := by simp only [Array.size_append, Array.size_extract]; omega) hl rfl ?_)
    refine wpAny_bind (wpAny_letGo ?_)
    first
      | exact wpAny_bind (wpAny_pure (wpAny_pure ⟨.none, rfl, wpAny_pure h⟩))
      | exact wpAny_pure ⟨.none, rfl, wpAny_pure h⟩
  · rw [if_neg (by rw [beq_iff_eq]; omega)]
    have hc := hc one
    have np : (ws.size != (sliceRange (d : Int) (us.size : Int) (st : Int)).length) = false := by rw [hc]; exact bne_self_eq_false _
    first | refine PySem.W.KFB.if_not np ?_ | (dsimp only; rw [np, if_neg Bool.false_ne_true])
    first | refine wpAny_bind (wpAny_pure ?_) | skip
    refine wpAny_bind (wpAny_rule ?_)
    have z2 : ∀ (ps : List (Nat × Value)) (xs : Array Value), (ps.foldl (fun xs q => xs.setIfInBounds q.1 q.2) xs).size = xs.size := by
      intro ps
      induction ps with
      | nil => intro xs; rfl
      | cons q ps ih => intro xs; exact (ih _).trans (Array.size_setIfInBounds ..)
    show wpAny _ _ (updateSeq l (fun xs => ((sliceRange (d : Int) (us.size : Int) (st : Int)).zip ws.toList).foldl (fun xs q => xs.setIfInBounds q.1 q.2) xs) >>= fun _ => _) _ _ s
    refine wpAny_bind (wpAny_updateSeq (hz := by omega) (_hz' := by rw [z2]; omega) hl rfl ?_)
    simp only [if_neg one] at h
    refine wpAny_bind (wpAny_letGo ?_)
    first
      | exact wpAny_bind (wpAny_pure (wpAny_pure ⟨.none, rfl, wpAny_pure h⟩))
      | exact wpAny_pure ⟨.none, rfl, wpAny_pure h⟩
theorem range_from {d n st : Nat} (s0 : 0 < st) : sliceRange (d : Int) (n : Int) (st : Int) = (List.range ((n - d + (st - 1)) / st)).map fun k => d + st * k := by
  unfold sliceRange
  rw [if_pos (show (st : Int) > 0 by omega)]
  have e : (if (d : Int) < (n : Int) then ((n : Int) - d + st - 1) / (st : Int) else 0).toNat = (n - d + (st - 1)) / st := by
    by_cases c : d < n
    · rw [if_pos (by omega)]
      have : (n : Int) - d + st - 1 = ((n - d + (st - 1) : Nat) : Int) := by omega
      rw [this]
      show (((n - d + (st - 1)) / st : Nat) : Int).toNat = _
      rw [Int.toNat_natCast]
    · rw [if_neg (by omega)]
      have : n - d = 0 := by omega
      rw [this, Nat.zero_add, Nat.div_eq_of_lt (by omega)]
      rfl
  show List.map _ (List.range (if (d : Int) < (n : Int) then ((n : Int) - d + st - 1) / (st : Int) else 0).toNat) = _
  rw [e]
  refine List.map_congr_left fun k _ => ?_
  show ((d : Int) + (st : Int) * (k : Int)).toNat = _
  have : (st : Int) * (k : Int) = ((st * k : Nat) : Int) := (Int.natCast_mul _ _).symm
  rw [this]
  omega
end
section
variable {X : Cx} {pos p2 : Pos}
/-- o[lo:] = v, o[lo::st] = v: by values -/
def rPutS : V → Option Int → Option Int → V → Hp → (Hp → Prop) → Prop := fun o lo so v H Q => ∃ (l b : Addr) (xs ys : List V) (d st : Nat), o = .ref l ∧ v = .ref b ∧ l ≠ b ∧ H l = some (.lst xs) ∧ H b = some (.lst ys) ∧
  lo = some (d : Int) ∧ so.getD 1 = (st : Int) ∧ 0 < st ∧ d ≤ xs.length ∧ xs.length + ys.length ≤ sizeLine ∧ (st ≠ 1 → ys.length = (xs.length - d + (st - 1)) / st) ∧ Q (upd H l (.lst (putS xs ys d xs.length st)))
theorem put_slice {pins : List (Addr × Obj)} {s : Shared} {σ : L2.St} {H : Hp} {o v : V} {lo so : Option Int} {ov u vl vs : Value} {sl : Addr} {Q : Hp → Prop} (I : Inv X pins σ H s) (ro : RelV o ov) (rv : RelV v u)
    (hs : s.heap.IsSliceOf sl vl .none vs) (pl : IsPart vl lo) (ps : IsPart vs so) (h : rPutS o lo so v H Q) : wpAny (model X.prog X.w) X.A (setItem ov (.ref sl) u) (fun _ s' => ∃ H', Inv X pins σ H' s' ∧ Q H') X.xe s := by
  obtain ⟨l, b, xs, ys, d, st, rfl, rfl, ne, hl, hb, rfl, hst, s0, hd, hz, hc, q⟩ := h
  cases ro
  cases rv
  obtain ⟨z, its, n, r, el, e⟩ := I.lstM hl
  obtain ⟨z2, ws, m, r2, el2, e2⟩ := I.lstM hb
  refine store_slice (d := d) (st := st) e e2 ne hs pl ps hst s0 (by rw [List.size_toArray]; omega) (by rw [List.size_toArray, List.size_toArray]; omega) (fun c => ?_) ⟨_, ?_, q⟩
  · rw [range_from s0, List.length_map, List.length_range, List.size_toArray, List.size_toArray, ← el2, ← el]
    exact hc c
  · unfold putS
    by_cases one : st = 1
    · refine I.lset (its' := its.take d ++ ws ++ its.drop (max d xs.length)) (t' := s.toks) hl e ?_ ?_ ?_
      · simp only [if_pos one]
        show its.toArray.extract 0 d ++ ws.toArray ++ its.toArray.extract (max d its.toArray.size) its.toArray.size = _
        rw [splice_eq, List.size_toArray, ← el]
      · rw [if_pos one]
        exact Vals.append (Vals.append (r.take _) r2) (r.drop _)
      · rw [if_pos one, List.length_append, List.length_append, List.length_take, List.length_drop]
        omega
    · refine I.lset (its' := (((List.range ys.length).map fun k => d + st * k).zip ws).foldl (fun zs q => zs.set q.1 q.2) its) (t' := s.toks) hl e ?_ ?_ ?_
      · simp only [if_neg one]
        show ((sliceRange (d : Int) (its.toArray.size : Int) (st : Int)).zip ws).foldl (fun xs q => xs.setIfInBounds q.1 q.2) its.toArray = _
        rw [arr_foldl, range_from s0, List.size_toArray, ← el, hc one]
      · rw [if_neg one]
        exact vals_foldl _ r2 r
      · rw [if_neg one, foldl_set_len]
        omega
def gPutS (te : TE) (tl ts : TO) : TG := fun v σ H Q => te σ H fun o H1 => tl σ H1 fun lo H2 => ts σ H2 fun so H3 => rPutS o lo so v H3 fun H4 => Q σ H4
theorem pg_putS {rl : Value → Value → Value → List Value} {o : Expr} {lo so : Option Expr} {te : TE} {tl ts : TO} (ho : PE X o te) (hl : PO X lo tl) (hs : PO X so ts)
    (ha : ∀ v, assign (.Subscript o (.Slice lo none so p2) pos) X.env v = (do
      let a ← holding [v] (eval o X.env)
      let i ← holding [v, a] (eval (.Slice lo none so p2) X.env)
      standAt pos
      holding [v, a, i] (setItem a i v)
      release (rl v a i) []) := by intro _; rfl) : PG X (.Subscript o (.Slice lo none so p2) pos) (gPutS te tl ts) := by
  refine ⟨fun pins s σ H v u Q I r h => ?_⟩
  rw [ha]
  refine wpAny_bind (wpAny_holding (thn (ho.run pins s σ H _ I h) fun a s1 ⟨x, H1, I1, r1, q1⟩ => ?_))
  refine wpAny_bind (wpAny_holding ?_)
  refine wpAny_Slice (thn (hl.run pins s1 σ H1 _ I1 q1) fun vl s2 ⟨lo, H2, I2, pl, q2⟩ => ?_)
  rw [evalPart_none]
  refine wpAny_pure (thn (hs.run pins s2 σ H2 _ I2 q2) fun vs s3 ⟨so, H3, I3, ps, q3⟩ => ?_)
  have I4 : Inv X pins σ H3 { s3 with heap := s3.heap.push { cls := .type "slice", data := .fields #[vl, .none, vs] } } := I3.kept (t' := s3.toks) fun b ob q => Heap.get?_push_of_some _ q
  refine wpAny_bind (wpAny_standAt (wpAny_bind (wpAny_holding (thn (put_slice (sl := s3.heap.objs.size) I4 r1 r (Heap.IsSliceOf.new ..) pl ps q3) fun _ s5 ⟨H5, I5, q5⟩ => ?_))))
  exact wpAny_release ⟨σ, H5, I5, q5⟩
theorem rd_putS {te : TE} {tl ts : TO} : gPutS te tl ts v σ H Q = te σ H fun o H1 => tl σ H1 fun lo H2 => ts σ H2 fun so H3 => rPutS o lo so v H3 fun H4 => Q σ H4 := rfl
theorem rPutS.w {l b : Addr} {xs ys : List V} {d st : Nat} {lo so : Option Int} {H : Hp} {Q : Hp → Prop} (ne : l ≠ b) (hl : H l = some (.lst xs)) (hb : H b = some (.lst ys)) (e1 : lo = some (d : Int)) (e2 : so.getD 1 = (st : Int)) (s0 : 0 < st)
    (hd : d ≤ xs.length) (hz : xs.length + ys.length ≤ sizeLine) (hc : st ≠ 1 → ys.length = (xs.length - d + (st - 1)) / st) (q : Q (upd H l (.lst (putS xs ys d xs.length st)))) : rPutS (.ref l) lo so (.ref b) H Q :=
  ⟨l, b, xs, ys, d, st, rfl, rfl, ne, hl, hb, e1, e2, s0, hd, hz, hc, q⟩
end
end CB
namespace CB
open PySem PySem.Spec PyProof.Rows L2
/-! ### Refused alone, where a law has no Malformed -/
structure ErrP (K : PySem.W.Frag) (mg : Str → Option Value) (C f : Addr) : Prop where
  g : mg "Refused" = some (.ref C)
  ox : OexC K C
  i : PySem.W.findIn K (.ref C) "__init__" = some (some (.ref f))
  t : PySem.W.typeIn K (.ref f) = some (.type "function")
  n : PySem.W.findIn K (.ref C) "reason" = some none
  xf : XfC K C
  rr : PySem.W.exmOne K (.ref C) (.ref C) = some true
structure ErrQ (P : Program) (w : World) (K : PySem.W.Frag) (mg : Str → Option Value) (base : Heap) (C : Addr) : Prop where
  r : ∃ f fd, ErrP K mg C f ∧ FnOk P w K mg base CX0 1 f fd ["self", "reason"] (spRI K) ∧ Binds K fd ["self", "reason"] []
theorem ps_refQ {X : Cx} {W : WX} {C : Addr} {m : Str} {j : Nat} {p p2 pos pp : Pos} (E : ErrQ X.prog X.w X.K X.mg X.base C) (hc : X.calm = true) (tk : Takes X W) (hr : Room 2 X.A) (hg : Gl X "Refused") (hs : starEach [Expr.Constant (.str m) j p2] X.env = (false, eval (Expr.Constant (.str m) j p2) X.env) :: starEach [] X.env := by rfl)
    (hpl : (backTo pos (starEach [] X.env)).any (·.1) = false := by rfl) :
    PS X (.Raise (some (.Call (.Name "Refused" p) [.Constant (.str m) j p2] [] pos)) none pp) (fun _ σ H => ∀ d H', Same H H' → H d = none → H' d = some (.xd [("reason", .str m)]) → W (.ref C) (some d) σ H') := by
  obtain ⟨f, fd, R, F, b⟩ := E.r
  refine ⟨fun pins s σ H D I h => ?_⟩
  refine (ps_raise hc tk (pmk_oex R.ox R.i R.t F hr b .nil pass0 hg R.g (pa_cons pe_str pa_nil hs) rfl hs hpl)).run pins s σ H D I ?_
  show ([V.str m].length ≤ 1000 ∧ _)
  refine ⟨by show 1 ≤ 1000; decide, fun a na => ⟨a, C, .str m, rfl, R.ox, R.n, upd_same, fun dx ndx ne => ⟨rfl, dx, [("reason", .str m)], upd_same, ?_, ?_, ?_⟩⟩⟩
  · rw [upd_ne ne, upd_same]
  · rw [upd_ne ne] at ndx
    exact ndx
  · rw [upd_ne ne] at ndx
    refine h dx _ (fun b o e => ?_) ndx upd_same
    have hbd : b ≠ dx := ne_of_none e ndx
    have hba : b ≠ a := ne_of_none e na
    rw [upd_ne hbd, del_ne hba, upd_ne hba, upd_ne hbd, upd_ne hba]
    exact e
end CB
namespace CB
open PySem PySem.Spec PyProof.Rows L2
/-- a tuple of ints that a module's name holds -/
abbrev TC (K : PySem.W.Frag) (mg : Str → Option Value) (x : Str) (ns : List Int) : Prop := ∃ a : Addr, mg x = some (.ref a) ∧ ∀ H : Hp, SqT K H a (ns.map V.int)
end CB
namespace CB
open PySem PySem.Spec PyProof.Rows L2
/-- a loop whose test leaves another heap -/
theorem while_h {c : TT} {tb : TS} {D : Ends} {σ : L2.St} {H : Hp} (Pw : L2.St → Hp → Prop) (μ : L2.St → Hp → Nat) (h0 : Pw σ H)
    (hs : ∀ σ H, Pw σ H → ∀ N : L2.St → Hp → Prop, (∀ σ' H', Pw σ' H' → μ σ' H' < μ σ H → N σ' H') →
      ∀ R : Bool → Hp → Prop, (∀ H1, tb { D with nx := N, ct := N, bk := D.nx } σ H1 → R true H1) → (∀ H1, D.nx σ H1 → R false H1) → c σ H R) : tWhile c tb D σ H := by
  refine ⟨fun m σ H => m = μ σ H ∧ Pw σ H, ⟨_, rfl, h0⟩, ?_⟩
  rintro m σ H ⟨rfl, p⟩
  refine hs σ H p (fun σ' H' => Pw σ' H' ∧ μ σ' H' < μ σ H) (fun σ' H' a b => ⟨a, b⟩) _ (fun H1 h => ?_) (fun H1 h => ?_)
  · rw [if_pos rfl]
    exact ⟨_, fun σ' H' ⟨p', l⟩ => ⟨_, l, rfl, p'⟩, h⟩
  · rw [if_neg Bool.false_ne_true]
    exact h
end CB
namespace CB
open PySem PySem.Spec PyProof.Rows L2
/-- a value's truth within a comprehension -/
theorem pt_truthK {X : Cx} {K : PySem.W.Frag} (h : X.K = K) {a : Expr} {ta : TE} (ha : PE X a ta) (he : ∀ whole, isTrue a X.env whole = (do let v ← whole; standAt a.pos; holding [v] (truthy v))) :
    PT X a (fun σ H Q => ta σ H fun x H' => ∃ k, TruV K x H' k ∧ Q k H') := by
  subst h
  exact pt_truth ha he
end CB
/-! zip of two, each a list or a tuple -/
namespace CB
open PySem PySem.Spec PyProof.Rows L2
/-- a tuple (true) or a list -/
def SqB (t : Bool) (K : PySem.W.Frag) (H : Hp) (a : Addr) (xs : List V) : Prop := match t with
  | true => SqT K H a xs
  | false => SqL K H a xs
def ItB (t : Bool) (h : Heap) (it a : Addr) (i : Nat) : Prop := match t with
  | true => h.IsTupleIter it a i
  | false => h.IsListIter it a i
def HsB (t : Bool) (h : Heap) (a : Addr) (us : Array Value) : Prop := match t with
  | true => h.IsTuple a us
  | false => h.IsList a us
def obB (t : Bool) (a : Addr) : Obj := match t with
  | true => { cls := .type "tuple_iterator", data := .fields #[.ref a, .int 0 0] }
  | false => { cls := .type "list_iterator", data := .fields #[.ref a, .int 0 0] }
theorem SqB.inj {X : Cx} {pins : List (Addr × Obj)} {σ : L2.St} {H : Hp} {s : Shared} {t : Bool} {a : Addr} {xs ys : List V} (I : Inv X pins σ H s) (h : SqB t X.K H a xs) (h' : SqB t X.K H a ys) : xs = ys := by
  cases t with
  | true => exact I.tuple_inj h h'
  | false => exact I.list_inj h h'
theorem SqB.laid {X : Cx} {pins : List (Addr × Obj)} {σ : L2.St} {H : Hp} {s : Shared} {t : Bool} {a : Addr} {xs : List V} (I : Inv X pins σ H s) (h : SqB t X.K H a xs) : ∃ us : List Value, Vals xs us ∧ HsB t s.heap a us.toArray := by
  cases t with
  | true =>
    obtain ⟨us, r, p, _⟩ := I.tuple h
    exact ⟨us, r, p⟩
  | false =>
    obtain ⟨us, r, p, _⟩ := I.list h
    exact ⟨us, r, p.isList⟩
theorem HsB.lt {t : Bool} {h : Heap} {a : Addr} {us : Array Value} (p : HsB t h a us) : a < h.objs.size := by
  cases t with
  | true => obtain ⟨_, e, _⟩ := p; exact Heap.lt_size e
  | false => obtain ⟨_, e, _⟩ := p; exact Heap.lt_size e
theorem HsB.at {t : Bool} {h h' : Heap} {a : Addr} {us : Array Value} (p : HsB t h a us) (k : ∀ o, h.get? a = some o → h'.get? a = some o) : HsB t h' a us := by
  cases t with
  | true => exact Heap.IsTuple.at p k
  | false => exact Heap.IsList.at p k
theorem ItB.at {t : Bool} {h h' : Heap} {it a : Addr} {i : Nat} (p : ItB t h it a i) (k : ∀ o, h.get? it = some o → h'.get? it = some o) : ItB t h' it a i := by
  cases t with
  | true => exact Heap.IsTupleIter.at p k
  | false => exact Heap.IsListIter.at p k
theorem ItB.ob {t : Bool} {h : Heap} {it a : Addr} {i : Nat} (p : ItB t h it a i) : ∃ o, h.get? it = some o ∧ ∀ v, o.data ≠ .cell v := by
  cases t with
  | true => obtain ⟨o, e, _, d⟩ := p; exact ⟨o, e, fun v q => by rw [d] at q; cases q⟩
  | false => obtain ⟨o, e, _, d⟩ := p; exact ⟨o, e, fun v q => by rw [d] at q; cases q⟩
theorem drawsB {prog : Program} {w : World} {A : Around} (t : Bool) (hh : A.handled = none) (it a : Addr) (hne : a ≠ it) (us : Array Value) :
    Draws prog w A it [it, a] us.size (fun i v => us[i]? = some v) (fun i h => ItB t h it a i ∧ HsB t h a us) := by
  cases t with
  | true => exact Draws.tuple hh it a hne us
  | false => exact Draws.list hh it a hne us
theorem beginsB (t : Bool) (a : Addr) (us : Array Value) : Begins (.ref a) (obB t a) fun h => HsB t h a us := by
  cases t with
  | true => exact begins_tuple a us
  | false => exact begins_list a us
theorem itB_new {t : Bool} {h : Heap} {it a : Addr} (e : h.get? it = some (obB t a)) : ItB t h it a 0 := by
  cases t with
  | true => exact ⟨_, e, rfl, rfl⟩
  | false => exact ⟨_, e, rfl, rfl⟩
/-- what stands at a and b at each turn, the items in new pairs -/
def Itm (s t : Bool) (K : PySem.W.Frag) (a b : Addr) : It where
  go := fun i H => ∃ (xs ys : List V) (x y : V), (SqB s K H a xs ∧ xs[i]? = some x) ∧ SqB t K H b ys ∧ ys[i]? = some y
  yld := fun i H v H' => ∃ T x y, v = .ref T ∧ H T = none ∧ H' = upd H T (.tup [x, y]) ∧ (∀ xs, SqB s K H a xs → xs[i]? = some x) ∧ (∀ ys, SqB t K H b ys → ys[i]? = some y)
  stop := fun i H => ∃ xs ys : List V, (SqB s K H a xs ∧ SqB t K H b ys) ∧ i ≤ xs.length ∧ i ≤ ys.length ∧ (i = xs.length ∨ i = ys.length)
/-- the state of a zip's own objects -/
def ZpB (s t : Bool) (a b z TI TO i1 i2 : Addr) (i : Nat) (h : Heap) : Prop :=
  IsZip h z TI TO .none ∧ IsTupOf2 h TI (.ref i1) (.ref i2) ∧ (∃ x y, IsTupOf2 h TO x y) ∧ ItB s h i1 a i ∧ ItB t h i2 b i
theorem nm2 {x y z : Addr} (h1 : x ≠ y) (h2 : x ≠ z) : x ∉ [y, z] := fun h => by
  rcases List.mem_cons.mp h with e | e
  · exact h1 e
  · exact h2 (List.mem_singleton.mp e)
theorem fp5 {z TI TO i1 i2 c : Addr} {p : Addr → Prop} (hc : c ∈ [z, TI, TO, i1, i2]) (h0 : p z) (h1 : p TI) (h2 : p TO) (h3 : p i1) (h4 : p i2) : p c := by
  simp only [List.mem_cons, List.not_mem_nil, or_false] at hc
  rcases hc with rfl | rfl | rfl | rfl | rfl <;> assumption
theorem turn_zipM {P : Program} {w : World} {K : PySem.W.Frag} {elts : List Expr} {kk : Nat} {tpos : Pos} (s t : Bool) {a b z TI TO i1 i2 : Addr} (S : ZipSep2 z TI TO i1 i2 [i1, a] [i2, b]) (n1 : a ≠ i1) (n2 : b ≠ i2) :
    Turn P w K (.Tuple elts kk tpos) (Itm s t K a b) [z, TI, TO, i1, i2] z (ZpB s t a b z TI TO i1 i2) where
  mem := List.mem_cons_self
  obj := fun i h st c hc => by
    obtain ⟨q0, q1, ⟨x, y, q2⟩, q3, q4⟩ := st
    exact fp5 (p := fun c => ∃ o, h.get? c = some o ∧ ∀ v, o.data ≠ .cell v) hc ⟨_, q0, fun _ e => nomatch e⟩ ⟨_, q1, fun _ e => nomatch e⟩ ⟨_, q2, fun _ e => nomatch e⟩ q3.ob q4.ob
  keep := fun i h h1 st k => by
    obtain ⟨q0, q1, ⟨x, y, q2⟩, q3, q4⟩ := st
    exact ⟨k z (by simp) _ q0, k TI (by simp) _ q1, ⟨x, y, k TO (by simp) _ q2⟩, q3.at (k i1 (by simp)), q4.at (k i2 (by simp))⟩
  item := by
    intro X hP hw hK hcalm i pins sh σ H E I hf st hgo
    subst hP hw hK
    obtain ⟨q0, q1, ⟨x0, y0, q2⟩, q3, q4⟩ := st
    obtain ⟨xs, ys, x, y, ⟨hxs, hx⟩, hys, hy⟩ := hgo
    obtain ⟨us, r1, p1⟩ := hxs.laid I
    obtain ⟨vs, r2, p2⟩ := hys.laid I
    obtain ⟨u, hu, ru⟩ := r1.get hx
    obtain ⟨v, hv, rv⟩ := r2.get hy
    have lz : z < sh.heap.objs.size := Heap.lt_size q0
    have iu : i < us.toArray.size := by
      rw [List.size_toArray]
      exact (List.getElem?_eq_some_iff.mp hu).1
    have iv : i < vs.toArray.size := by
      rw [List.size_toArray]
      exact (List.getElem?_eq_some_iff.mp hv).1
    refine wpAny_pyNext_zipD2_item S (drawsB s (A := X.A.in1) (I.ok.hd hcalm) i1 a n1 us.toArray) (drawsB t (A := X.A.in1) (I.ok.hd hcalm) i2 b n2 vs.toArray) q0 q1 q2 ⟨q3, p1⟩ ⟨q4, p2⟩ iu iv fun u' v' h1 tk eu ev z1 T1 s1 s2 nT sz k => ?_
    have eu : u' = u := by
      have e : us[i]? = some u' := by simpa using eu
      rw [hu] at e
      exact (Option.some.inj e).symm
    have ev : v' = v := by
      have e : vs[i]? = some v' := by simpa using ev
      rw [hv] at e
      exact (Option.some.inj e).symm
    subst eu ev
    refine ⟨_, rfl, wpAny_letOwnedTupleGo_zip (s := { sh with heap := h1, toks := tk }) z1 fun h2 z2 sb => ?_⟩
    have nT2 : h2.get? sh.heap.objs.size = some { cls := .type "tuple", data := .seq #[u', v'] } := (sb.2 _ (Nat.ne_of_gt lz)).trans nT
    have new : ObjOk X.prog X.w (upd H sh.heap.objs.size (.tup [x, y])) h2 sh.heap.objs.size (.tup [x, y]) :=
      ⟨by show 2 ≤ sizeLine; decide, [u', v'], .cons ru (.cons rv .nil), ⟨_, nT2, rfl, _, rfl⟩⟩
    have kk : ∀ c o, c ∉ [z, TI, TO, i1, i2] → sh.heap.get? c = some o → h2.get? c = some o := fun c o hc e =>
      (sb.2 c fun z => hc (by simp [z])).trans (k c o (fun z => hc (by simp [z])) (fun z => hc (by simp [z])) (fun z => hc (by simp [z])) (fun z => hc (by simp [z])) e)
    have I2 : Inv X pins σ (upd H sh.heap.objs.size (.tup [x, y])) { sh with heap := h2, toks := tk } := I.turnedNew (ch := [z, TI, TO, i1, i2]) kk hf (Nat.le_refl _) new
    have old : ∀ c o, sh.heap.get? c = some o → c ≠ sh.heap.objs.size := fun c o e => Nat.ne_of_lt (Heap.lt_size e)
    refine ⟨.ref sh.heap.objs.size, _, I2, rfl, ⟨_, x, y, rfl, I.hok.fresh (Nat.le_refl _), rfl, fun l hl => by rw [hl.inj I hxs]; exact hx, fun l hl => by rw [hl.inj I hys]; exact hy⟩, ⟨z2, ?_, ⟨u', v', ?_⟩, ?_, ?_⟩, fun c hc => ?_⟩
    · exact (sb.2 _ S.TIz).trans (k _ _ S.TIz S.TITO S.TIi1 S.TIi2 q1)
    · exact (sb.2 _ S.TOz).trans T1
    · exact s1.1.at fun o e => (sb.2 i1 S.zi1.symm).trans e
    · exact s2.1.at fun o e => (sb.2 i2 S.zi2.symm).trans e
    · have ne : c ≠ sh.heap.objs.size := fp5 (p := fun c => c ≠ sh.heap.objs.size) hc (old _ _ q0) (old _ _ q1) (old _ _ q2) (by obtain ⟨o, e, _⟩ := q3.ob; exact old _ _ e) (by obtain ⟨o, e, _⟩ := q4.ob; exact old _ _ e)
      rw [upd_ne ne]
      exact (hf c hc).1
  done := by
    intro X hP hw hK hcalm i pins sh σ H E I hf st hstop
    subst hP hw hK
    obtain ⟨q0, q1, ⟨x0, y0, q2⟩, q3, q4⟩ := st
    obtain ⟨xs, ys, ⟨hxs, hys⟩, l1, l2, he⟩ := hstop
    obtain ⟨us, r1, p1⟩ := hxs.laid I
    obtain ⟨vs, r2, p2⟩ := hys.laid I
    have e1 : us.toArray.size = xs.length := by rw [List.size_toArray, r1.length]
    have e2 : vs.toArray.size = ys.length := by rw [List.size_toArray, r2.length]
    refine wpAny_pyNext_zipD2_end S (drawsB s (A := X.A.in1) (I.ok.hd hcalm) i1 a n1 us.toArray) (drawsB t (A := X.A.in1) (I.ok.hd hcalm) i2 b n2 vs.toArray) q0 q1 q2 ⟨q3, p1⟩ ⟨q4, p2⟩ (by omega) (by omega) (by omega) fun h1 tk k => ?_
    exact ⟨rfl, I.turnedL (ch := [z, TI, TO, i1, i2]) (fun c o hc e => k c o (fun z => hc (by simp [z])) (fun z => hc (by simp [z])) (fun z => hc (by simp [z])) (fun z => hc (by simp [z])) e) hf⟩
  self := fun A i sh Q E st h => wpAny_pyIter_zip st.1 h
/-- zip(e, e2), the kinds of both told -/
def iZipM (s t : Bool) (K : PySem.W.Frag) (ta : TA) : TI := fun σ H R => ta σ H fun vs H1 => ∃ a b xs ys, vs = [.ref a, .ref b] ∧ SqB s K H1 a xs ∧ SqB t K H1 b ys ∧ R (Itm s t K a b) H1
theorem pi_zipM {X : Cx} {e e2 : Expr} {ta : TA} {p pos tpos : Pos} {elts : List Expr} {kk : Nat} (s t : Bool) (hg : Gl X "zip") (hm : X.mg "zip" = none) (ha : PA X [e, e2] ta)
    (hs : starEach [e, e2] X.env = (false, eval e X.env) :: starEach [e2] X.env := by rfl) (hpl : (backTo pos (starEach [e2] X.env)).any (·.1) = false := by rfl) :
    PI X (.Tuple elts kk tpos) (.Call (.Name "zip" p) [e, e2] [] pos) (iZipM s t X.K ta) := by
  refine ⟨fun pins sh σ H R I h => ?_⟩
  refine Call_ (ld_blt I hg hm PyProof.Rows.boot_zip (PyProof.Rows.callWith_type1 (thn (ha.run pos pins sh σ H _ I h) fun us s1 ⟨vs, H1, I1, rr, a, b, xs, ys, ex, hx, hy, q⟩ => ?_) hs hpl))
  subst ex
  obtain ⟨u1, u2, rfl, ra, rb⟩ := vals2 rr
  cases ra
  cases rb
  obtain ⟨us, r1, p1⟩ := hx.laid I1
  obtain ⟨ws, r2, p2⟩ := hy.laid I1
  have la : @LT.lt Nat _ a s1.heap.objs.size := p1.lt
  have lb : @LT.lt Nat _ b s1.heap.objs.size := p2.lt
  refine zip_begins2 (beginsB s a us.toArray) (beginsB t b ws.toArray) p1 p2 fun h1 z0 z1 z2 g1 g2 sz k => wpAny_pyIter_zip z0 ?_
  have I2 : Inv X pins σ H1 { s1 with heap := h1 } := I1.kept (t' := s1.toks) k
  have S : ZipSep2 (s1.heap.objs.size + 4) (s1.heap.objs.size + 2) (s1.heap.objs.size + 3) s1.heap.objs.size (s1.heap.objs.size + 1) [s1.heap.objs.size, a] [s1.heap.objs.size + 1, b] := by
    constructor <;> first | (refine PySem.W.neN ?_; omega) | exact List.mem_cons_self | (refine nm2 ?_ ?_ <;> refine PySem.W.neN ?_ <;> omega)
  refine ⟨s1.heap.objs.size + 4, _, _, _, H1, rfl, I2, turn_zipM s t S (Nat.ne_of_lt la) (Nat.ne_of_lt (Nat.lt_succ_of_lt lb)), ⟨z0, z1, ⟨_, _, z2⟩, itB_new g1, itB_new g2⟩, fun c hc => ?_, q⟩
  have le : s1.heap.objs.size ≤ c := fp5 (p := fun c => s1.heap.objs.size ≤ c) hc (Nat.le_add_right _ _) (Nat.le_add_right _ _) (Nat.le_add_right _ _) (Nat.le_refl _) (Nat.le_add_right _ _)
  exact I1.fpOk le (I1.hok.fresh le)
/-! loops and comprehensions over it -/
def ForZ (s t : Bool) (K : PySem.W.Frag) (a b : Addr) := ForJ (Itm s t K a b)
def LcZ (s t : Bool) (K : PySem.W.Frag) (a b : Addr) := LcJ (Itm s t K a b)
section
variable {K : PySem.W.Frag} {s t : Bool} {a b : Addr} {xs ys : List V} {g : TG} {tb : TS} {D : Ends} {σ : L2.St} {H : Hp} {ta : TA} {tt : TT} {te : TE} {vs : List Nat} {Q : VK}
theorem rd_forZ : tFor (iZipM s t K ta) g tb D σ H = ta σ H fun us H1 => ∃ a b xs ys, us = [.ref a, .ref b] ∧ SqB s K H1 a xs ∧ SqB t K H1 b ys ∧ ForZ s t K a b g tb D σ H1 := rfl
theorem rd_lcZ : tLc (iZipM s t K ta) g tt te vs σ H Q = ta σ H fun us H1 => ∃ a b xs ys, us = [.ref a, .ref b] ∧ SqB s K H1 a xs ∧ SqB t K H1 b ys ∧ LcZ s t K a b g tt te vs σ H1 Q := rfl
theorem itm_go {i : Nat} (hx : SqB s K H a xs) (hy : SqB t K H b ys) (h1 : i < xs.length) (h2 : i < ys.length) : (Itm s t K a b).go i H := ⟨xs, ys, _, _, ⟨hx, List.getElem?_eq_getElem h1⟩, hy, List.getElem?_eq_getElem h2⟩
theorem ForZ.w {n : Nat} (hn : n = min xs.length ys.length) (Pw : Nat → L2.St → Hp → Prop) (h0 : Pw 0 σ H) (hl : ∀ i σ H, i ≤ n → Pw i σ H → SqB s K H a xs ∧ SqB t K H b ys)
    (hs : ∀ (i : Nat) (x y : V) (T : Addr) σ H, xs[i]? = some x → ys[i]? = some y → Pw i σ H → H T = none → ∀ N : L2.St → Hp → Prop, (∀ σ' H', Pw (i + 1) σ' H' → N σ' H') → g (.ref T) σ (upd H T (.tup [x, y])) fun σ2 H2 => tb { D with nx := N, ct := N, bk := D.nx } σ2 H2)
    (hd : ∀ σ H, Pw n σ H → D.nx σ H) : ForZ s t K a b g tb D σ H := by
  refine ⟨fun i m σ H => m = n - i ∧ i ≤ n ∧ Pw i σ H, ⟨_, rfl, Nat.zero_le _, h0⟩, ?_⟩
  rintro i m σ H ⟨rfl, hi, p⟩
  obtain ⟨qx, qy⟩ := hl i σ H hi p
  rcases Nat.lt_or_ge i n with c | c
  · refine .inr ⟨itm_go qx qy (by omega) (by omega), Pw (i + 1), fun σ' H' p' => ⟨n - (i + 1), by omega, rfl, c, p'⟩, fun v H' y => ?_⟩
    obtain ⟨T, x, y, rfl, hT, rfl, f1, f2⟩ := y
    exact hs i x y T σ H (f1 xs qx) (f2 ys qy) p hT _ fun _ _ h => h
  · have e : i = n := by omega
    subst e
    exact .inl ⟨⟨xs, ys, ⟨qx, qy⟩, by omega, by omega, by omega⟩, hd σ H p⟩
/-- a comprehension over zip, by what holds beside the list that is made -/
theorem LcZ.i {n : Nat} (hn : n = min xs.length ys.length) (I : Nat → List V → Hp → Prop) (hi : ∀ i zs, Ind H (I i zs)) (h0 : ∀ H1, Same H H1 → I 0 [] H1) (hl : ∀ i zs H1, I i zs H1 → SqB s K H1 a xs ∧ SqB t K H1 b ys) (hz : ∀ i zs H1, I i zs H1 → zs.length < sizeLine)
    (hs : ∀ (i : Nat) (x y : V), xs[i]? = some x → ys[i]? = some y → ∀ zs H1 T, I i zs H1 → H1 T = none → ∀ (M : VK) (S : Hp → Prop), (∀ v H2, Kn H H1 H2 → I (i + 1) (zs ++ [v]) H2 → M v H2) → (∀ H2, Kn H H1 H2 → I (i + 1) zs H2 → S H2) →
      g (.ref T) (wipe σ vs) (upd H1 T (.tup [x, y])) fun σ2 H2 => wipe σ2 vs = wipe σ vs ∧ tt σ2 H2 fun b H3 => if b = true then te σ2 H3 M else S H3)
    (hd : ∀ D zs H', H D = none → I n zs H' → H' D = some (.lst zs) → Q (.ref D) H') : LcZ s t K a b g tt te vs σ H Q := by
  intro D hD
  refine ⟨fun i m H1 => m = n - i ∧ i ≤ n ∧ ∃ zs, I i zs H1 ∧ H1 D = some (.lst zs), ⟨_, rfl, Nat.zero_le _, [], h0 _ (same_upd hD), upd_same⟩, ?_⟩
  rintro i m H1 ⟨rfl, hin, zs, p, hz1⟩
  obtain ⟨qx, qy⟩ := hl i zs H1 p
  rcases Nat.lt_or_ge i n with c | c
  · refine .inr ⟨itm_go qx qy (by omega) (by omega), fun H' => ∃ zs, I (i + 1) zs H' ∧ H' D = some (.lst zs), fun H' p' => ⟨n - (i + 1), by omega, rfl, c, p'⟩, fun v H' y => ?_⟩
    obtain ⟨T, x, y, rfl, hT, rfl, f1, f2⟩ := y
    exact hs i x y (f1 xs qx) (f2 ys qy) zs H1 T p hT (fun y H4 => ∃ acc, H4 D = some (.lst acc) ∧ acc.length < sizeLine ∧ ∃ zs, I (i + 1) zs (upd H4 D (.lst (acc ++ [y]))) ∧ (upd H4 D (.lst (acc ++ [y]))) D = some (.lst zs)) _
      (fun v H2 k q => ⟨zs, k D zs hD hz1, hz _ _ _ p, zs ++ [v], hi _ _ H2 D zs _ q hD (k D zs hD hz1), upd_same⟩) (fun H2 k q => ⟨zs, q, k D zs hD hz1⟩)
  · have e : i = n := by omega
    subst e
    exact .inl ⟨⟨xs, ys, ⟨qx, qy⟩, by omega, by omega, by omega⟩, hd D zs H1 hD p hz1⟩
/-- the items are told -/
theorem LcZ.p {n : Nat} (hn : n = min xs.length ys.length) (y : Nat → Option V) (hm : n ≤ 10000000) (hx : ∀ H1, Same H H1 → SqB s K H1 a xs ∧ SqB t K H1 b ys)
    (hs : ∀ (i : Nat) (x x' : V), xs[i]? = some x → ys[i]? = some x' → ∀ H1 T, Same H H1 → H1 T = some (.tup [x, x']) → ∀ (M : VK) (S : Hp → Prop), (∀ v H2, y i = some v → Same H1 H2 → M v H2) → (∀ H2, y i = none → Same H1 H2 → S H2) →
      g (.ref T) (wipe σ vs) H1 fun σ2 H2 => wipe σ2 vs = wipe σ vs ∧ tt σ2 H2 fun b H3 => if b = true then te σ2 H3 M else S H3)
    (hd : ∀ D H', H D = none → Same H H' → H' D = some (.lst ((List.range n).filterMap y)) → Q (.ref D) H') : LcZ s t K a b g tt te vs σ H Q := by
  refine LcZ.i hn (pureI H n y) pureI.ind (fun H1 s => ⟨s, rfl, Nat.zero_le _⟩) (fun i zs H1 p => hx H1 p.1) (pureI.z hm) ?_ (fun D zs H' nD p e => hd D H' nD p.1 (by rw [← p.2.1]; exact e))
  rintro i x x' h1 h2 zs H1 T ⟨s1, rfl, _⟩ nT M S hM hS
  have sT := same_upd (o := HO.tup [x, x']) nT
  have i1 := (List.getElem?_eq_some_iff.mp h1).1
  have i2 := (List.getElem?_eq_some_iff.mp h2).1
  refine hs i x x' h1 h2 _ T (s1.trans sT) upd_same M S (fun v H2 e s2 => hM v H2 (.same (sT.trans s2)) ⟨(s1.trans sT).trans s2, ?_, by omega⟩) (fun H2 e s2 => hS H2 (.same (sT.trans s2)) ⟨(s1.trans sT).trans s2, ?_, by omega⟩)
  · rw [List.range_succ, List.filterMap_append, List.filterMap_cons, e]
    rfl
  · rw [List.range_succ, List.filterMap_append, List.filterMap_cons, e, List.filterMap_nil, List.append_nil]
end
end CB
/-! set(..) of a list of ints, sorted -/
namespace CB
open PySem PySem.Spec PyProof.Rows L2
section
variable {P : Program} {w : World} {A : Around} {E : Value → Shared → Prop} {s : Shared}
/-- the new set, empty -/
abbrev eset (w : World) : Obj := ⟨.type "set", none, .set #[] 0 (.fresh 0 0 (!w.params.followText "set-order")), #[]⟩
abbrev hp1 (w : World) (s : Shared) : Heap := s.heap.push (eset w)
theorem set_of_list {l : Addr} {us : Array Value} (ns : List Int) {Q : Value → Shared → Prop} (nh : A.handled = none) (il : s.heap.IsList l us) (ui : IntsAre us.toList ns) (few : ns.length + 1 < scanBound)
    (q : ∀ (h' : Heap) (t c : Nat), SetR w h' s.heap.objs.size (fun j => decide (j ∈ ns)) c → c ≤ ns.length → (∀ b o, s.heap.get? b = some o → h'.get? b = some o) → Q (.ref s.heap.objs.size) { s with heap := h', toks := t }) :
    wpAny (model P w) A (call (.type "set") [.ref l]) Q E s := by
  have us_ns : us.size = ns.length := by
    have e := IntsAre.length ui
    rwa [Array.length_toList] at e
  obtain ⟨c, tl, mro⟩ := F.called_set.mro
  have made := F.called_set.made
  have sub := F.called_set.sub
  have notT := F.called_set.notType
  have canC := F.called_set.canCreate
  have chk := F.typeCall_set_1 (.ref l)
  refine wpAny_call (codeAny_of_tree (show wpAny _ _ (callAny (.type "set") _) _ _ _ from ?_))
  refine wpAny_pure ⟨Code.quiet_builtin _ (by decide +kernel), codeAny_builtin F.entry_type_call ?_⟩
  rw [Around.under_plain (weight_type_call_type "set" [.ref l] []) rfl]
  repeat (any_goals (first | assumption | wp_step))
  refine codeAny_mono (code_set_led1 (w := w) (.ref l) (E := E) (Q₁ := fun ob t => ob = .ref s.heap.objs.size ∧ t = { s with heap := hp1 w s }) ⟨rfl, rfl⟩) fun r t ht => ?_
  match r, ht with
  | .error e, ht => exact ht
  | .ok .next, ht => exact ht.elim
  | .ok .brk, ht => exact ht.elim
  | .ok .cont, ht => exact ht.elim
  | .ok (.ret ob), ht =>
    obtain ⟨rfl, rfl⟩ := ht
    have at1 : (hp1 w s).get? s.heap.objs.size = some (eset w) := Heap.get?_push_size _ rfl
    have ty1 : Shared.TypeIs { s with heap := hp1 w s } (.ref s.heap.objs.size) "set" := ⟨_, at1, rfl⟩
    have look := F.called_set.init.lookup
    have bind := F.called_set.init.bind (.ref s.heap.objs.size)
    repeat (any_goals (first | assumption | wp_step))
    refine codeAny_mono (codeAny_call_builtin (R := wants (fun x t => x = .none ∧ ∃ (h' : Heap) (tk c : Nat), t = { s with heap := h', toks := tk } ∧ (SetR w h' s.heap.objs.size (fun j => decide (j ∈ ns)) c ∧ c ≤ ns.length) ∧ ∀ b o, s.heap.get? b = some o → h'.get? b = some o) E)
      F.called_set.init.plain F.entry_set_init (check_set_init_1 ty1 ?_)) fun r2 t2 ht2 => ?_
    · obtain ⟨⟨oc, od, oa, osl⟩, g0, rfl, nl, rfl⟩ := il
      have g1 : (hp1 w s).get? l = some ⟨.type "list", od, .seq us nl, osl⟩ := Heap.get?_push_of_some _ g0
      have s1 := F.sub_list_set
      have s2 := F.sub_list_frozenset
      have nd : (Value.type "list" == Value.type "dict") = false := by decide
      have il1 : (hp1 w s).IsList l us := ⟨_, g1, rfl, nl, rfl⟩
      unfold Builtin.«set.__init__» noKeywords Builtin.Frozenset.updateFrom
      generalize iterator : pyIter = IT
      wp_walk
      subst iterator
      refine wpAny_pyIter_list il1 (wpAny_bind (wpAny_runValue ?_))
      have l0 : l < s.heap.objs.size := Heap.lt_size g0
      have z1 : (hp1 w s).objs.size = s.heap.objs.size + 1 := Heap.size_push ..
      have n1 : l ≠ (hp1 w s).objs.size := fun e => Nat.ne_of_lt (Nat.lt_succ_of_lt l0) (Eq.trans e z1)
      have n2 : s.heap.objs.size ∉ [(hp1 w s).objs.size, l] := fun z => by
        rcases List.mem_cons.mp z with z | z
        · exact Nat.ne_of_lt (Nat.lt_succ_self _) (Eq.trans z z1)
        · exact Nat.ne_of_lt l0 (List.mem_singleton.mp z).symm
      have told : ∀ (i : Nat) (v : Value), us[i]? = some v → ∃ k t, ns[i]? = some k ∧ v = .int k t := fun i v hv => by
        have hi : i < ns.length := us_ns ▸ (Array.getElem?_eq_some_iff.mp hv).1
        obtain ⟨t, e⟩ := PyProof.Rows.IntsAre.int_at ui i v (by rwa [Array.getElem?_toList])
        refine ⟨ns[i], t, List.getElem?_eq_getElem hi, e.trans ?_⟩
        rw [List.getD_eq_getElem?_getD, List.getElem?_eq_getElem hi]
        rfl
      refine set_update_ints (w := w) (Walks.list (by simp [nh]) _ l n1 us).toS s.heap.objs.size n2 ns us_ns few told us.size 0 _ (Nat.sub_zero _) (Nat.zero_le _) ⟨⟨_, Heap.get?_push_size _ rfl, rfl, rfl⟩, il1.push _⟩ ⟨0, Nat.le_refl 0, ?_⟩ ?_
      · exact setR_new_at (Heap.get?_push_of_some _ at1)
      · intro ⟨h', g', d', t', o'⟩ c' mv hc hS
        obtain rfl : g' = s.gens := mv.gens
        obtain rfl : d' = s.drawn := mv.drawn
        obtain rfl : o' = s.os := mv.os
        refine wpAny_pure (show wpAny _ _ (ret Value.none) _ _ _ from wpAny_pure ⟨rfl, h', t', c', rfl, ⟨hS, by omega⟩, fun b o e => ?_⟩)
        have b0 : b < s.heap.objs.size := Heap.lt_size e
        refine mv.heap b o (fun z => ?_) (Heap.get?_push_of_some _ (Heap.get?_push_of_some _ e))
        rcases List.mem_cons.mp z with z | z
        · exact Nat.ne_of_lt b0 z
        · exact Nat.ne_of_lt (Nat.lt_succ_of_lt b0) (Eq.trans (List.mem_singleton.mp z) z1)
    · match r2, ht2 with
      | .error e, ht2 => exact ht2
      | .ok .next, ht2 => exact ht2.elim
      | .ok .brk, ht2 => exact ht2.elim
      | .ok .cont, ht2 => exact ht2.elim
      | .ok (.ret x), ht2 =>
        obtain ⟨rfl, h', tk, c', rfl, ⟨hS, hc⟩, kept⟩ := ht2
        repeat (any_goals (first | assumption | wp_step))
        exact q _ _ _ hS hc kept
end
section
variable {X : Cx}
/-- set(xs) of a list of ints -/
def rSetL1 (K : PySem.W.Frag) (w : World) : List V → Hp → VK → Prop := fun xs H Q => ∃ (a : Addr) (ns : List Int), xs = [V.ref a] ∧ SqL K H a (ns.map V.int) ∧ ns.length ≤ 1000 ∧
  ∀ p c, H p = none → c ≤ ns.length → Q (.ref p) (upd H p (SetO w p (fun j => decide (j ∈ ns)) c))
theorem cr_setL1 (hc : X.calm = true) : CallR X (.type "set") (rSetL1 X.K X.w) := by
  intro pins s σ H xs us Q I r h
  obtain ⟨a, ns, rfl, hs, few, q⟩ := h
  obtain ⟨its, rv, il, _⟩ := I.list hs
  rw [Vals.ref1 r]
  refine set_of_list ns (I.ok.hd hc) il.isList rv.ints (by unfold scanBound; omega) fun h' t c R hcn kept => ?_
  exact ⟨.ref _, _, I.laid (t' := t) kept (Nat.le_refl _) (setO_new R), rfl, q _ c (I.hok.fresh (Nat.le_refl _)) hcn⟩
theorem cr_setL1w {w : World} (hw : X.w = w) (hc : X.calm = true) : CallR X (.type "set") (rSetL1 X.K w) := by
  subst hw
  exact cr_setL1 hc
theorem cr_sortedSetw {w : World} (hw : X.w = w) (hc : X.calm = true) : CallR X (.builtin "sorted") (rSortedSet w) := by
  subst hw
  exact cr_sortedSet hc
theorem rd_setL1 {K : PySem.W.Frag} {w : World} {xs : List V} {H : Hp} {Q : VK} : rSetL1 K w xs H Q = ∃ (a : Addr) (ns : List Int), xs = [V.ref a] ∧ SqL K H a (ns.map V.int) ∧ ns.length ≤ 1000 ∧
  ∀ p c, H p = none → c ≤ ns.length → Q (.ref p) (upd H p (SetO w p (fun j => decide (j ∈ ns)) c)) := rfl
theorem rd_sortedSet {w : World} {xs : List V} {H : Hp} {Q : VK} : rSortedSet w xs H Q = ∃ (a : Addr) (S : Int → Bool) (n : Nat), xs = [V.ref a] ∧ H a = some (SetO w a S n) ∧ n < 64 ∧
  ∀ (ns : List Int) (p : Addr), ns.Pairwise (· < ·) → (∀ k : Int, k ∈ ns ↔ S k = true) → ns.length = n → H p = none → Q (.ref p) (upd H p (.lst (ns.map V.int))) := rfl
end
end CB
namespace CB
open PySem PySem.Spec PyProof.Rows L2
/-! ### tuple * int, any number of times -/
theorem mul_same (l : Addr) (us : Array Value) (n : Nat) (dd : Option Addr) (sl : Array (Option Value)) (u : Tok) :
    Meets (Builtin.«tuple.__mul__» ⟨[.ref l, .int 1 u], []⟩) (fun _ R s => s.heap.get? l = some ⟨.type "tuple", dd, .seq us n, sl⟩ ∧ R (.ok (.ret (.ref l))) s) :=
  .of_wp fun prog w A R s h => by
    obtain ⟨hp, g, d, tk, os⟩ := s
    obtain ⟨hl, h⟩ := h
    have ix := AutoSeq1.idx_int
    have b1 : (decide ((1 : Int) < -(2 ^ 63)) || decide ((1 : Int) ≥ 2 ^ 63)) = false := by decide
    have b2 : (us.isEmpty || (1 : Int) == 1) = true := by rw [show ((1 : Int) == 1) = true from rfl, Bool.or_true]
    wp_walk using wpAny_loadPart' hl
    exact ⟨_, rfl, h⟩
theorem mul_none (l : Addr) (us : Array Value) (n : Nat) (dd : Option Addr) (sl : Array (Option Value)) (u : Tok) (ne : us.isEmpty = false) :
    Meets (Builtin.«tuple.__mul__» ⟨[.ref l, .int 0 u], []⟩) (fun _ R s => s.heap.get? l = some ⟨.type "tuple", dd, .seq us n, sl⟩ ∧ R (.ok (.ret (.ref s.heap.objs.size))) { s with heap := s.heap.push { cls := .type "tuple", data := .seq #[] } }) :=
  .of_wp fun prog w A R s h => by
    obtain ⟨hp, g, d, tk, os⟩ := s
    obtain ⟨hl, h⟩ := h
    have ix := AutoSeq1.idx_int
    have b2 : (us.isEmpty || (0 : Int) == 1) = false := by rw [ne]; rfl
    wp_walk using wpAny_loadPart' hl
    exact ⟨_, rfl, h⟩
/-- a tuple that a statement made, k times: for one it is the same tuple -/
def rRepA : R2 := fun x y H Q => ∃ (l : Addr) (k : Nat) (xs : List V), x = .ref l ∧ y = .int k ∧ H l = some (.tup xs) ∧ xs ≠ [] ∧ k ≤ 1000 ∧ xs.length ≤ 1000 ∧
  ∀ p H', Same H H' → H' p = some (.tup (List.replicate k xs).flatten) → Q (.ref p) H'
theorem op_repA {X : Cx} : OpR X (binaryOp .Mult) rRepA := by
  intro pins s σ H x y v u Q I rx ry h
  obtain ⟨l, k, xs, rfl, rfl, hT, hne, k1, hz, q⟩ := h
  by_cases c2 : 2 ≤ k
  · exact op_repT pins s σ H _ _ v u Q I rx ry ⟨l, k, xs, rfl, rfl, SqT.of hT, hne, by omega, by omega, hz, fun p np => q p _ (same_upd np) (by rw [upd_same, Int.toNat_natCast])⟩
  cases rx
  obtain ⟨t, rfl⟩ := ry
  obtain ⟨its, r, ⟨⟨cls, dd, data, sl⟩, ho, hc, n, hd⟩, hs⟩ := I.tuple (SqT.of hT)
  simp only at hc hd
  subst hc hd
  have ne : its.toArray.isEmpty = false := by
    cases its with
    | cons a b => rfl
    | nil => exact absurd (List.eq_nil_of_length_eq_zero r.length) hne
  have k01 : k = 1 ∨ k = 0 := by omega
  rcases k01 with rfl | rfl
  · refine wpAny_binaryOp_repeat_ref (T := "tuple") (U := "int") (by decide) ⟨_, ho, rfl⟩
      (fun s' => typeIs_int s' 1 t) noFill_tuple_mul F.fills_int_mul F.slot_int_rmul
      repeat_tuple F.slot_int_index.lookup (call_meets F.slot_int_rmul (typeIs_int s 1 t)
        F.entry_int_rmul (F.args_int_rmul_2 _ _) (int_rmul_tuple 1 t l its.toArray n dd sl)
        ⟨ho, rfl, ⟨_, ho, rfl⟩, call_meets F.slot_tuple_mul ⟨_, ho, rfl⟩ F.entry_tuple_mul
          (F.args_tuple_mul_2 _ _) (mul_same l its.toArray n dd sl t) ⟨ho, ?_⟩⟩)
    exact ⟨.ref l, H, I, rfl, q l H (Same.refl _) (by rw [hT, List.replicate_one, List.flatten_cons, List.flatten_nil, List.append_nil])⟩
  · refine wpAny_binaryOp_repeat_ref (T := "tuple") (U := "int") (by decide) ⟨_, ho, rfl⟩
      (fun s' => typeIs_int s' 0 t) noFill_tuple_mul F.fills_int_mul F.slot_int_rmul
      repeat_tuple F.slot_int_index.lookup (call_meets F.slot_int_rmul (typeIs_int s 0 t)
        F.entry_int_rmul (F.args_int_rmul_2 _ _) (int_rmul_tuple 0 t l its.toArray n dd sl)
        ⟨ho, rfl, ⟨_, ho, rfl⟩, call_meets F.slot_tuple_mul ⟨_, ho, rfl⟩ F.entry_tuple_mul
          (F.args_tuple_mul_2 _ _) (mul_none l its.toArray n dd sl t ne) ⟨ho, ?_⟩⟩)
    refine ⟨.ref s.heap.objs.size, upd H s.heap.objs.size (.tup []), I.laid (t' := s.toks) (fun b ob e => Heap.get?_push_of_some _ e) (Nat.le_refl _) ?_, rfl, q _ _ (same_upd (I.hok.fresh (Nat.le_refl _))) (by rw [upd_same]; rfl)⟩
    exact ⟨Nat.zero_le _, _, .nil, IsTup.new _ _⟩
theorem rd_repA {x y : V} {H : Hp} {Q : VK} : rRepA x y H Q = ∃ (l : Addr) (k : Nat) (xs : List V), x = .ref l ∧ y = .int k ∧ H l = some (.tup xs) ∧ xs ≠ [] ∧ k ≤ 1000 ∧ xs.length ≤ 1000 ∧
  ∀ p H', Same H H' → H' p = some (.tup (List.replicate k xs).flatten) → Q (.ref p) H' := rfl
end CB
/-! a dict of ints, by ints, that a module's name holds (own work) -/
namespace CB
open PySem PySem.Spec PyProof.Rows L2
def EntI : List DictEntry → List (Int × Int) → Prop
  | [], [] => True
  | e :: es, q :: kvs => (∃ t, e.key = .int q.1 t) ∧ e.hash = hashInt q.1 ∧ (∃ t, e.val = .int q.2 t) ∧ EntI es kvs
  | _, _ => False
def lkI (kvs : List (Int × Int)) (k : Int) : Option Int := (kvs.find? fun q => decide (q.1 = k)).map (·.2)
theorem EntI.keys : ∀ {es : List DictEntry} {kvs : List (Int × Int)}, EntI es kvs → ∀ e ∈ es, ∃ k t, e.key = .int k t ∧ e.hash = hashInt k
  | [], [], _, e, he => by simp at he
  | e0 :: es, q :: kvs, ⟨⟨t, h1⟩, h2, _, r⟩, e, he => by
    rcases List.mem_cons.mp he with rfl | he
    · exact ⟨_, t, h1, h2⟩
    · exact r.keys e he
theorem EntI.find (k : Int) : ∀ {es : List DictEntry} {kvs : List (Int × Int)}, EntI es kvs → match lkI kvs k with
    | some v => ∃ t, (es.find? fun d => Value.isInt k d.key).map (·.val) = some (.int v t)
    | none => (es.find? fun d => Value.isInt k d.key).map (·.val) = none
  | [], [], _ => rfl
  | e0 :: es, q :: kvs, ⟨⟨t, h1⟩, h2, ⟨u, h3⟩, r⟩ => by
    have ih := EntI.find k r
    unfold lkI at ih ⊢
    rw [List.find?_cons, List.find?_cons]
    by_cases c : q.1 = k
    · have e1 : Value.isInt k e0.key = true := by rw [h1]; simp [Value.isInt, c]
      rw [e1, decide_eq_true c]
      exact ⟨u, by rw [← h3]; rfl⟩
    · have e1 : Value.isInt k e0.key = false := by rw [h1]; simp [Value.isInt, c]
      rw [e1, decide_eq_false c]
      exact ih
/-- at d stands such a dict -/
def DcA (K : PySem.W.Frag) (d : Addr) (kvs : List (Int × Int)) : Prop := ∃ (es : Array DictEntry) (n : Nat), K.lookup d = some ⟨.type "dict", none, .dict es n, #[]⟩ ∧ (d == sysModules) = false ∧ EntI es.toList kvs
abbrev DC (K : PySem.W.Frag) (mg : Str → Option Value) (x : Str) (kvs : List (Int × Int)) : Prop := ∃ d : Addr, mg x = some (.ref d) ∧ DcA K d kvs
theorem DcA.map {prog : Program} {w : World} {K : PySem.W.Frag} {d : Addr} {kvs : List (Int × Int)} {h : Heap} (X : K.In h) (D : DcA K d kvs) :
    ∃ f, h.MapOf (intKind prog w) d f ∧ (d == sysModules) = false ∧ ∀ k, match lkI kvs k with | some v => ∃ t, f k = some (.int v t) | none => f k = none := by
  obtain ⟨⟨es⟩, n, hl, low, he⟩ := D
  refine ⟨fun k => findBy (intKind prog w).is ⟨es⟩ k, ⟨_, ⟨es⟩, n, X _ _ hl, ⟨rfl, rfl, rfl⟩, rfl, fun e hm => ?_, fun _ => rfl⟩, low, fun k => ?_⟩
  · obtain ⟨k, t, h1, h2⟩ := he.keys e (Array.mem_toList_iff.mpr hm)
    exact ⟨k, by rw [h1]; exact intKind_is prog w k t, h2⟩
  · have := he.find k
    unfold findBy
    dsimp only
    have z : ∀ p : DictEntry → Bool, Array.find? p ⟨es⟩ = es.find? p := fun p => List.find?_toArray p es
    rw [z]
    exact this
def rIxDC (K : PySem.W.Frag) : R2 := fun x y H Q => ∃ d kvs i v, x = .ref d ∧ y = .int i ∧ DcA K d kvs ∧ lkI kvs i = some v ∧ Q (.int v) H
theorem ix_dc {X : Cx} : IxR X (rIxDC X.K) := by
  intro value slice pins s σ H x y v u Q I rx ry h hs
  obtain ⟨d, kvs, i, v0, rfl, rfl, D, e, q⟩ := h
  cases rx
  obtain ⟨t, rfl⟩ := ry
  obtain ⟨f, hm, low, hf⟩ := D.map (prog := X.prog) (w := X.w) I.kIn
  have hf := hf i
  rw [e] at hf
  obtain ⟨tk, hf⟩ := hf
  refine tail_any hm.typeIs slot_dict_getitem.lookup ?_ hs
  exact wpAny_getItem_of (intKind_is X.prog X.w i t) hm hf ⟨.int v0, H, I.tok _, ⟨_, rfl⟩, q⟩
theorem ix_dcK {X : Cx} {K : PySem.W.Frag} (h : X.K = K) : IxR X (rIxDC K) := by
  subst h
  exact ix_dc
def rInDC (K : PySem.W.Frag) (b : Bool) : R2 := fun x y H Q => ∃ d kvs i, x = .int i ∧ y = .ref d ∧ DcA K d kvs ∧ Q (.bl ((lkI kvs i).isSome != b)) H
theorem op_inDC {X : Cx} : OpR X (compareOp .In) (rInDC X.K false) := by
  intro pins s σ H x y v u Q I rx ry h
  obtain ⟨d, kvs, i, rfl, rfl, D, q⟩ := h
  cases ry
  obtain ⟨t, rfl⟩ := rx
  obtain ⟨f, hm, low, hf⟩ := D.map (prog := X.prog) (w := X.w) I.kIn
  have hf := hf i
  refine wpAny_in_of (intKind_is X.prog X.w i t) low hm ?_
  rcases e : lkI kvs i with _ | v0
  · rw [e] at hf q
    rw [hf]
    exact ⟨.bl false, H, I.tok _, rfl, q⟩
  · rw [e] at hf q
    obtain ⟨tk, hf⟩ := hf
    rw [hf]
    exact ⟨.bl true, H, I.tok _, rfl, q⟩
theorem op_notInDC {X : Cx} : OpR X (compareOp .NotIn) (rInDC X.K true) := by
  intro pins s σ H x y v u Q I rx ry h
  obtain ⟨d, kvs, i, rfl, rfl, D, q⟩ := h
  cases ry
  obtain ⟨t, rfl⟩ := rx
  obtain ⟨f, hm, low, hf⟩ := D.map (prog := X.prog) (w := X.w) I.kIn
  have hf := hf i
  refine wpAny_notIn_of (intKind_is X.prog X.w i t) low hm ?_
  rcases e : lkI kvs i with _ | v0
  · rw [e] at hf q
    rw [hf]
    exact ⟨.bl true, H, I.tok _, rfl, q⟩
  · rw [e] at hf q
    obtain ⟨tk, hf⟩ := hf
    rw [hf]
    exact ⟨.bl false, H, I.tok _, rfl, q⟩
theorem rd_ixDC {K : PySem.W.Frag} {x y : V} {H : Hp} {Q : VK} : rIxDC K x y H Q = ∃ d kvs i v, x = .ref d ∧ y = .int i ∧ DcA K d kvs ∧ lkI kvs i = some v ∧ Q (.int v) H := rfl
theorem rd_inDC {K : PySem.W.Frag} {b : Bool} {x y : V} {H : Hp} {Q : VK} : rInDC K b x y H Q = ∃ d kvs i, x = .int i ∧ y = .ref d ∧ DcA K d kvs ∧ Q (.bl ((lkI kvs i).isSome != b)) H := rfl
theorem rd_cat {x y : V} {H : Hp} {Q : VK} : rCat x y H Q = ∃ l b xs zs, x = .ref l ∧ y = .ref b ∧ H l = some (.lst xs) ∧ H b = some (.lst zs) ∧ xs.length + zs.length ≤ sizeLine ∧ ∀ p, H p = none → Q (.ref p) (upd H p (.lst (xs ++ zs))) := rfl
end CB
/-! zip(reversed(list), list) (own work) -/
namespace CB
open PySem PySem.Spec PyProof.Rows L2
section
variable {prog : Program} {w : World} {A : Around} {E : Value → Shared → Prop} {sh : Shared}
theorem nextRv_item {r l : Addr} {j : Nat} {us : Array Value} {x : Value} {Q : Value → Shared → Prop} (hr : sh.heap.IsRevIter r l (j : Int)) (hl : sh.heap.IsList l us) (hx : us[j]? = some x)
    (k : ∀ g, g.IsRevIter r l ((j : Int) - 1) → Heap.SameBut r sh.heap g → Q x { sh with heap := g }) : wpAny (model prog w) A (Builtin.SmallTypes.nextOf (.ref r)) Q E sh := by
  obtain ⟨ob, eo, hc, hd⟩ := id hr
  obtain ⟨ol, el, _, nl, dl⟩ := hl
  unfold Builtin.SmallTypes.nextOf
  refine wpAny_bind (wpAny_callSpecial?_slot (name := Str.ofString "__next__") hr.typeIs F.slot_lri_next (wpAny_call_entry F.slot_lri_next hr.typeIs F.entry_lri_next ?_ (F.args_lri_next_1 _)))
  unfold Builtin.«list_reverseiterator.__next__»
  refine wpAny_bind (wpAny_of_eq (a := (Value.ref r, [])) rfl ?_)
  dsimp only
  refine wpAny_bind (wpAny_field eo hd (x := rawInt (j : Int)) rfl ?_)
  show wpAny _ _ (if (j : Int) < 0 then _ else _) _ _ sh
  rw [if_neg (show ¬ (j : Int) < 0 by omega)]
  show wpAny _ _ (field (.ref r) 0 >>= _) _ _ sh
  refine wpAny_bind (wpAny_field eo hd (x := .ref l) rfl ?_)
  show wpAny _ _ (seqItems? (.ref l) >>= _) _ _ sh
  refine wpAny_bind (wpAny_seqItems el dl ?_)
  simp only [Int.toNat_natCast, hx]
  refine wpAny_bind (wpAny_setField eo hd (by simp) ?_)
  first
  | refine wpAny_pure ⟨x, rfl, wpAny_pure (k _ ?_ (Heap.SameBut.update ..))⟩
  | refine wpAny_bind (wpAny_pure (wpAny_pure ⟨x, rfl, wpAny_pure (k _ ?_ (Heap.SameBut.update ..))⟩))
  refine ⟨_, Heap.get?_update_self _ eo (Obj.isFreed_of_fields (Obj.data_mapFields hd _)), (Obj.cls_mapFields ..).trans hc, ?_⟩
  rw [Obj.data_mapFields hd]
  simp
theorem nextRv_end {r l : Addr} {Q : Value → Shared → Prop} (hh : A.handled = none) (hr : sh.heap.IsRevIter r l (-1))
    (k : ∀ g e, Heap.ExtBut r sh.heap g → (∃ o, g.get? e = some o ∧ o.cls = .type "StopIteration") → E (.ref e) { sh with heap := g }) : wpAny (model prog w) A (Builtin.SmallTypes.nextOf (.ref r)) Q E sh := by
  obtain ⟨ob, eo, hc, hd⟩ := id hr
  unfold Builtin.SmallTypes.nextOf
  refine wpAny_bind (wpAny_callSpecial?_slot (name := Str.ofString "__next__") hr.typeIs F.slot_lri_next (wpAny_call_entry F.slot_lri_next hr.typeIs F.entry_lri_next ?_ (F.args_lri_next_1 _)))
  unfold Builtin.«list_reverseiterator.__next__»
  refine wpAny_bind (wpAny_of_eq (a := (Value.ref r, [])) rfl ?_)
  dsimp only
  refine wpAny_bind (wpAny_field eo hd (x := rawInt (-1)) rfl ?_)
  show wpAny _ _ (if (-1 : Int) < 0 then _ else _) _ _ sh
  rw [if_pos (show (-1 : Int) < 0 by decide)]
  refine wpAny_bind (wpAny_rule ?_)
  first
  | show wpAny _ _ (newExc (.type "StopIteration") [] >>= _) _ _ sh
  | (refine wpAny_bind ?_; show wpAny _ _ (newExc (.type "StopIteration") [] >>= _) _ _ sh)
  refine wpAny_bind ?_
  simp only [newExc, newTuple]
  refine wpAny_bind (wpAny_newObj_type ?_ (by size_fits))
  refine wpAny_bind (m := firstArgMember _ _) (wpAny_of_eq (a := Value.none) (by simp only [firstArgMember]; rfl) ?_)
  refine wpAny_newObj_type ?_ (by size_fits)
  simp only [raiseNew]
  refine wpAny_bind (wpAny_handled ?_)
  first | rw [show A.in1.handled = none from hh] | rw [hh]
  refine wpAny_bind (wpAny_pure (wpAny_throw ?_))
  exact k _ _ (((Heap.ExtBut.refl _ _).push _).push _) ⟨_, Heap.get?_push_size _ rfl, rfl⟩
end
/-- the iterator's own state, i items drawn -/
def RvAt (r l : Addr) (us : Array Value) (i : Nat) (h : Heap) : Prop := (i ≤ us.size ∧ h.IsRevIter r l ((us.size : Int) - 1 - (i : Int))) ∧ h.IsList l us
theorem drawsR {prog : Program} {w : World} {A : Around} (hh : A.handled = none) (r l : Addr) (ne : l ≠ r) (us : Array Value) : Draws prog w A r [r, l] us.size (fun i v => us[us.size - 1 - i]? = some v) (RvAt r l us) where
  live := fun i h st => by
    obtain ⟨⟨_, o, e, _⟩, _⟩ := st
    exact ⟨o, e⟩
  frame := fun i h h' st k => ⟨⟨st.1.1, st.1.2.at fun o e => k r (by simp) o e⟩, st.2.at fun o e => k l (by simp) o e⟩
  item := fun i sh Q E hi st k => by
    have e1 : (us.size : Int) - 1 - (i : Int) = ((us.size - 1 - i : Nat) : Int) := by omega
    have hr := st.1.2
    rw [e1] at hr
    have hx : us[us.size - 1 - i]? = some (us[us.size - 1 - i]'(by omega)) := Array.getElem?_eq_getElem (by omega)
    refine nextRv_item hr st.2 hx fun g hg sb => ?_
    have e2 : ((us.size - 1 - i : Nat) : Int) - 1 = (us.size : Int) - 1 - ((i + 1 : Nat) : Int) := by omega
    rw [e2] at hg
    exact k _ g sh.toks hx ⟨⟨hi, hg⟩, st.2.extBut sb.extBut ne⟩ sb
  done := fun sh Q E st k => by
    have e1 : (us.size : Int) - 1 - (us.size : Int) = -1 := by omega
    have hr := st.1.2
    rw [e1] at hr
    exact nextRv_end hh hr k
/-! the start of such a zip: the second one's iterator is new -/
abbrev zrT (h : Heap) (r : Addr) (o : Obj) : Heap := (h.push o).push { cls := .type "tuple", data := .seq #[.ref r, .ref h.objs.size] }
abbrev zrO (h : Heap) (r : Addr) (o : Obj) : Heap := (zrT h r o).push { cls := .type "tuple", data := .seq #[.none, .none] }
abbrev zrZ (h : Heap) (r : Addr) (o : Obj) : Heap := (zrO h r o).push { cls := .type "zip", data := .fields #[.none, .bool false, .bool false, .ref (h.push o).objs.size, .ref (zrT h r o).objs.size] }
theorem meets_zipR {v2 : Value} {o : Obj} {Hb : Heap → Prop} {r l : Addr} {c : Int} (Bg : Begins v2 o Hb) :
    Meets (Builtin.«zip.__new__» ⟨[.type "zip", .ref r, v2], []⟩) (fun _ R sh => (sh.heap.IsRevIter r l c ∧ Hb sh.heap) ∧ R (.ok (.ret (.ref (zrO sh.heap r o).objs.size))) { sh with heap := zrZ sh.heap r o }) :=
  .of_wp fun prog w A R sh h => by
    obtain ⟨hp, g, d, tk, os⟩ := sh
    obtain ⟨⟨h1, h2⟩, h⟩ := h
    have sz := sub_zip
    have q1 : ∀ {A1 : Around} {E1 : Value → Shared → Prop} {Q1 : Value → Shared → Prop}, Q1 (.ref r) ⟨hp, g, d, tk, os⟩ → wpAny (model prog w) A1 (pyIter (.ref r)) Q1 E1 ⟨hp, g, d, tk, os⟩ := fun q => wpAny_pyIter_revIter h1 q
    have q2 : ∀ {A1 : Around} {E1 : Value → Shared → Prop} {Q1 : Value → Shared → Prop}, Q1 (.ref hp.objs.size) ⟨hp.push o, g, d, tk, os⟩ → wpAny (model prog w) A1 (pyIter v2) Q1 E1 ⟨hp, g, d, tk, os⟩ := fun q => Bg.iter prog w _ _ ⟨hp, g, d, tk, os⟩ _ h2 q
    wp_walk using q1, q2
    exact ⟨_, rfl, h⟩
theorem zipR_begins {prog : Program} {w : World} {A : Around} {E : Value → Shared → Prop} {sh : Shared} {v2 : Value} {o : Obj} {Hb : Heap → Prop} {r l : Addr} {c : Int} {Q : Value → Shared → Prop} (Bg : Begins v2 o Hb) (h1 : sh.heap.IsRevIter r l c) (h2 : Hb sh.heap)
    (k : ∀ g, IsZip g (sh.heap.objs.size + 3) (sh.heap.objs.size + 1) (sh.heap.objs.size + 2) .none → IsTupOf2 g (sh.heap.objs.size + 1) (.ref r) (.ref sh.heap.objs.size) → IsTupOf2 g (sh.heap.objs.size + 2) .none .none → g.get? sh.heap.objs.size = some o →
      (∀ b ob, sh.heap.get? b = some ob → g.get? b = some ob) → Q (.ref (sh.heap.objs.size + 3)) { sh with heap := g }) :
    wpAny (model prog w) A (call (.type "zip") [.ref r, v2]) Q E sh := by
  refine callType_new F.called_zip (by decide) (F.typeCall_zip_2 _ _) (F.newCall_zip_2 _ _) (fun ob => F.args_object_init_3 ob _ _) F.entry_zip_new (meets_zipR Bg) ⟨⟨h1, h2⟩, ?_⟩
  have z1 : (sh.heap.push o).objs.size = sh.heap.objs.size + 1 := Heap.size_push ..
  have zT : (zrT sh.heap r o).objs.size = sh.heap.objs.size + 2 := by rw [Heap.size_push, z1]
  have zO : (zrO sh.heap r o).objs.size = sh.heap.objs.size + 3 := by rw [Heap.size_push, zT]
  have gZ : (zrZ sh.heap r o).get? (zrO sh.heap r o).objs.size = some { cls := .type "zip", data := .fields #[.none, .bool false, .bool false, .ref (sh.heap.push o).objs.size, .ref (zrT sh.heap r o).objs.size] } := Heap.get?_push_size _ rfl
  have gO : (zrZ sh.heap r o).get? (zrT sh.heap r o).objs.size = some { cls := .type "tuple", data := .seq #[.none, .none] } := Heap.get?_push_of_some _ (Heap.get?_push_size _ rfl)
  have gT : (zrZ sh.heap r o).get? (sh.heap.push o).objs.size = some { cls := .type "tuple", data := .seq #[.ref r, .ref sh.heap.objs.size] } := Heap.get?_push_of_some _ (Heap.get?_push_of_some _ (Heap.get?_push_size _ rfl))
  have g2 : (zrZ sh.heap r o).get? sh.heap.objs.size = some o := Heap.get?_push_of_some _ (Heap.get?_push_of_some _ (Heap.get?_push_of_some _ (Heap.get?_push_size _ Bg.free)))
  rw [zO, zT, z1] at gZ
  rw [zT] at gO
  rw [z1] at gT
  show _ ∧ _
  rw [zO]
  exact ⟨⟨_, gZ, rfl⟩, k _ gZ gT gO g2 fun b ob e => Heap.get?_push_of_some _ (Heap.get?_push_of_some _ (Heap.get?_push_of_some _ (Heap.get?_push_of_some _ e)))⟩
/-- the items of a, n of them, from the end, those of b from the start, in new pairs -/
def Itr2 (K : PySem.W.Frag) (a b : Addr) (n : Nat) : It where
  go := fun i H => ∃ (xs ys : List V) (x y : V), (SqL K H a xs ∧ xs.length = n ∧ i < n ∧ xs[n - 1 - i]? = some x) ∧ SqL K H b ys ∧ ys[i]? = some y
  yld := fun i H v H' => ∃ T x y, v = .ref T ∧ H T = none ∧ H' = upd H T (.tup [x, y]) ∧ (∀ xs, SqL K H a xs → xs[n - 1 - i]? = some x) ∧ (∀ ys, SqL K H b ys → ys[i]? = some y)
  stop := fun i H => ∃ xs ys : List V, (SqL K H a xs ∧ SqL K H b ys) ∧ xs.length = n ∧ i ≤ n ∧ i ≤ ys.length ∧ (i = n ∨ i = ys.length)
def ZpR (a b z TI TO i1 i2 : Addr) (n : Nat) (i : Nat) (h : Heap) : Prop :=
  IsZip h z TI TO .none ∧ IsTupOf2 h TI (.ref i1) (.ref i2) ∧ (∃ x y, IsTupOf2 h TO x y) ∧ (i ≤ n ∧ h.IsRevIter i1 a ((n : Int) - 1 - (i : Int))) ∧ h.IsListIter i2 b i
theorem revI_ob {h : Heap} {r l : Addr} {c : Int} (p : h.IsRevIter r l c) : ∃ o, h.get? r = some o ∧ ∀ v, o.data ≠ .cell v := by
  obtain ⟨o, e, _, d⟩ := p
  exact ⟨o, e, fun v q => by rw [d] at q; cases q⟩
theorem lstI_ob {h : Heap} {r l : Addr} {c : Nat} (p : h.IsListIter r l c) : ∃ o, h.get? r = some o ∧ ∀ v, o.data ≠ .cell v := ItB.ob (t := false) p
theorem turn_zipR {P : Program} {w : World} {K : PySem.W.Frag} {elts : List Expr} {kk : Nat} {tpos : Pos} {a b z TI TO i1 i2 : Addr} (n : Nat) (S : ZipSep2 z TI TO i1 i2 [i1, a] [i2, b]) (n1 : a ≠ i1) (n2 : b ≠ i2) :
    Turn P w K (.Tuple elts kk tpos) (Itr2 K a b n) [z, TI, TO, i1, i2] z (ZpR a b z TI TO i1 i2 n) where
  mem := List.mem_cons_self
  obj := fun i h st c hc => by
    obtain ⟨q0, q1, ⟨x, y, q2⟩, q3, q4⟩ := st
    exact fp5 (p := fun c => ∃ ob, h.get? c = some ob ∧ ∀ v, ob.data ≠ .cell v) hc ⟨_, q0, fun _ e => nomatch e⟩ ⟨_, q1, fun _ e => nomatch e⟩ ⟨_, q2, fun _ e => nomatch e⟩ (revI_ob q3.2) (lstI_ob q4)
  keep := fun i h h1 st k => by
    obtain ⟨q0, q1, ⟨x, y, q2⟩, q3, q4⟩ := st
    exact ⟨k z (by simp) _ q0, k TI (by simp) _ q1, ⟨x, y, k TO (by simp) _ q2⟩, ⟨q3.1, q3.2.at fun o e => k i1 (by simp) o e⟩, q4.at fun o e => k i2 (by simp) o e⟩
  item := by
    intro X hP hw hK hcalm i pins sh σ H E I hf st hgo
    subst hP hw hK
    obtain ⟨q0, q1, ⟨x0, y0, q2⟩, q3, q4⟩ := st
    obtain ⟨xs, ys, x, y, ⟨hxs, hln, hin, hx⟩, hys, hy⟩ := hgo
    obtain ⟨us, r1, p1, _⟩ := I.list hxs
    obtain ⟨vs, r2, p2, _⟩ := I.list hys
    obtain ⟨u, hu, ru⟩ := r1.get hx
    obtain ⟨v, hv, rv⟩ := r2.get hy
    have lz : z < sh.heap.objs.size := Heap.lt_size q0
    have us_n : us.toArray.size = n := by rw [List.size_toArray, ← r1.length, hln]
    have iv : i < vs.toArray.size := by
      rw [List.size_toArray]
      exact (List.getElem?_eq_some_iff.mp hv).1
    have st1 : RvAt i1 a us.toArray i sh.heap := ⟨by rw [us_n]; exact q3, p1.isList⟩
    refine wpAny_pyNext_zipD2_item S (drawsR (A := X.A.in1) (I.ok.hd hcalm) i1 a n1 us.toArray) (Draws.list (A := X.A.in1) (I.ok.hd hcalm) i2 b n2 vs.toArray) q0 q1 q2 st1 ⟨q4, p2.isList⟩ (by rw [us_n]; exact hin) iv fun u1 v1 h1 tk eu ev z1 T1 s1 s2 nT sz k => ?_
    have eu : u1 = u := by
      have e : us[n - 1 - i]? = some u1 := by rw [us_n] at eu; simpa using eu
      rw [hu] at e
      exact (Option.some.inj e).symm
    have ev : v1 = v := by
      have e : vs[i]? = some v1 := by simpa using ev
      rw [hv] at e
      exact (Option.some.inj e).symm
    subst eu ev
    refine ⟨_, rfl, wpAny_letOwnedTupleGo_zip (s := { sh with heap := h1, toks := tk }) z1 fun h2 z2 sb => ?_⟩
    have nT2 : h2.get? sh.heap.objs.size = some { cls := .type "tuple", data := .seq #[u1, v1] } := (sb.2 _ (Nat.ne_of_gt lz)).trans nT
    have new : ObjOk X.prog X.w (upd H sh.heap.objs.size (.tup [x, y])) h2 sh.heap.objs.size (.tup [x, y]) :=
      ⟨by show 2 ≤ sizeLine; decide, [u1, v1], .cons ru (.cons rv .nil), ⟨_, nT2, rfl, _, rfl⟩⟩
    have kk : ∀ c o, c ∉ [z, TI, TO, i1, i2] → sh.heap.get? c = some o → h2.get? c = some o := fun c o hc e =>
      (sb.2 c fun q => hc (by simp [q])).trans (k c o (fun q => hc (by simp [q])) (fun q => hc (by simp [q])) (fun q => hc (by simp [q])) (fun q => hc (by simp [q])) e)
    have I2 : Inv X pins σ (upd H sh.heap.objs.size (.tup [x, y])) { sh with heap := h2, toks := tk } := I.turnedNew (ch := [z, TI, TO, i1, i2]) kk hf (Nat.le_refl _) new
    have old : ∀ c o, sh.heap.get? c = some o → c ≠ sh.heap.objs.size := fun c o e => Nat.ne_of_lt (Heap.lt_size e)
    have s11 := s1.1
    rw [us_n] at s11
    refine ⟨.ref sh.heap.objs.size, _, I2, rfl, ⟨_, x, y, rfl, I.hok.fresh (Nat.le_refl _), rfl, fun l hl => by rw [I.list_inj hl hxs]; exact hx, fun l hl => by rw [I.list_inj hl hys]; exact hy⟩, ⟨z2, ?_, ⟨u1, v1, ?_⟩, ⟨s11.1, ?_⟩, ?_⟩, fun c hc => ?_⟩
    · exact (sb.2 _ S.TIz).trans (k _ _ S.TIz S.TITO S.TIi1 S.TIi2 q1)
    · exact (sb.2 _ S.TOz).trans T1
    · exact s11.2.at fun o e => (sb.2 i1 S.zi1.symm).trans e
    · exact s2.1.at fun o e => (sb.2 i2 S.zi2.symm).trans e
    · have ne : c ≠ sh.heap.objs.size := fp5 (p := fun c => c ≠ sh.heap.objs.size) hc (old _ _ q0) (old _ _ q1) (old _ _ q2) (by obtain ⟨o, e, _⟩ := q3.2; exact old _ _ e) (by obtain ⟨o, e, _⟩ := q4; exact old _ _ e)
      rw [upd_ne ne]
      exact (hf c hc).1
  done := by
    intro X hP hw hK hcalm i pins sh σ H E I hf st hstop
    subst hP hw hK
    obtain ⟨q0, q1, ⟨x0, y0, q2⟩, q3, q4⟩ := st
    obtain ⟨xs, ys, ⟨hxs, hys⟩, hln, l1, l2, he⟩ := hstop
    obtain ⟨us, r1, p1, _⟩ := I.list hxs
    obtain ⟨vs, r2, p2, _⟩ := I.list hys
    have us_n : us.toArray.size = n := by rw [List.size_toArray, ← r1.length, hln]
    have vs_n : vs.toArray.size = ys.length := by rw [List.size_toArray, ← r2.length]
    have st1 : RvAt i1 a us.toArray i sh.heap := ⟨by rw [us_n]; exact q3, p1.isList⟩
    refine wpAny_pyNext_zipD2_end S (drawsR (A := X.A.in1) (I.ok.hd hcalm) i1 a n1 us.toArray) (Draws.list (A := X.A.in1) (I.ok.hd hcalm) i2 b n2 vs.toArray) q0 q1 q2 st1 ⟨q4, p2.isList⟩ (by omega) (by omega) (by omega) fun h1 tk k => ?_
    exact ⟨rfl, I.turnedL (ch := [z, TI, TO, i1, i2]) (fun c o hc e => k c o (fun q => hc (by simp [q])) (fun q => hc (by simp [q])) (fun q => hc (by simp [q])) (fun q => hc (by simp [q])) e) hf⟩
  self := fun A i sh Q E st h => wpAny_pyIter_zip st.1 h
/-- zip(reversed(e), e2), both lists -/
def iZipR (K : PySem.W.Frag) (te te2 : TE) : TI := fun σ H R => te σ H fun v H1 => ∃ a xs, v = .ref a ∧ SqL K H1 a xs ∧ te2 σ H1 fun v2 H2 => ∃ b ys, v2 = .ref b ∧ SqL K H2 a xs ∧ SqL K H2 b ys ∧ R (Itr2 K a b xs.length) H2
theorem pi_zipR {X : Cx} {e e2 : Expr} {te te2 : TE} {p p2 pos pos2 tpos : Pos} {elts : List Expr} {kk : Nat} (hg : Gl X "zip") (hm : X.mg "zip" = none) (hg2 : Gl X "reversed") (hm2 : X.mg "reversed" = none) (he : PE X e te) (he2 : PE X e2 te2)
    (hs : starEach [Expr.Call (.Name "reversed" p2) [e] [] pos2, e2] X.env = (false, eval (Expr.Call (.Name "reversed" p2) [e] [] pos2) X.env) :: starEach [e2] X.env := by rfl) (hs2 : starEach [e2] X.env = (false, eval e2 X.env) :: starEach [] X.env := by rfl)
    (hpl : (backTo pos (starEach [e2] X.env)).any (·.1) = false := by rfl) (hs3 : starEach [e] X.env = (false, eval e X.env) :: starEach [] X.env := by rfl) :
    PI X (.Tuple elts kk tpos) (.Call (.Name "zip" p) [.Call (.Name "reversed" p2) [e] [] pos2, e2] [] pos) (iZipR X.K te te2) := by
  refine ⟨fun pins sh σ H R I h => ?_⟩
  refine Call_ (ld_blt I hg hm PyProof.Rows.boot_zip (PyProof.Rows.callWith_type1 (PyProof.Rows.args_cons (Call_ (ld_blt I hg2 hm2 PyProof.Rows.boot_reversed (PyProof.Rows.callWith_type1 (PyProof.Rows.args_cons (thn (he.run pins sh σ H _ I h) fun u s1 ⟨v, H1, I1, rr, q⟩ => PyProof.Rows.args_nil ?_) hs3) hs3 rfl))) hs) hs hpl))
  obtain ⟨a, xs, rfl, hx, q⟩ := q
  obtain rfl : u = Value.ref a := rr
  obtain ⟨us, r1, p1, _⟩ := I1.list hx
  refine call_reversed_list p1.isList ?_
  have F1 := I1.fpOk (b := s1.heap.objs.size) (Nat.le_refl _) (I1.hok.fresh (Nat.le_refl _))
  have I2 : Inv X pins σ H1 { s1 with heap := s1.heap.push (revObj a ((us.toArray.size : Int) - 1)) } := I1.kept (t' := s1.toks) (fun b u e => Heap.get?_push_of_some _ e)
  have I3 : Inv X ((s1.heap.objs.size, revObj a ((us.toArray.size : Int) - 1)) :: pins) σ H1 { s1 with heap := s1.heap.push (revObj a ((us.toArray.size : Int) - 1)) } := I2.pins_of (fun p hp => by
    rcases List.mem_cons.mp hp with rfl | hp
    · exact ⟨Heap.get?_push_size _ rfl, F1.1, F1.2.1, F1.2.2.1, fun v e => nomatch e⟩
    · exact I2.pin p (List.mem_append_right _ hp))
  refine PyProof.Rows.args_cons (thn (he2.run _ _ σ H1 _ I3 q) fun u2 s2 ⟨v2, H2, I4, rr2, q2⟩ => PyProof.Rows.args_nil ?_) hs2
  obtain ⟨b, ys, rfl, hx2, hy, q3⟩ := q2
  obtain rfl : u2 = Value.ref b := rr2
  have P0 := I4.pin (s1.heap.objs.size, revObj a ((us.toArray.size : Int) - 1)) (List.mem_append_right _ List.mem_cons_self)
  have I5 : Inv X pins σ H2 s2 := I4.pins_of fun p hp => I4.pin p (List.mem_append_right _ (List.mem_cons_of_mem _ hp))
  obtain ⟨vs, r2, p2, _⟩ := I5.list hy
  obtain ⟨us2, _, p3, _⟩ := I5.list hx2
  have FR : FpOk X pins H2 s1.heap.objs.size := ⟨P0.2.1, F1.2⟩
  have lr : @LT.lt Nat _ s1.heap.objs.size s2.heap.objs.size := Heap.lt_size P0.1
  have la : @LT.lt Nat _ a s1.heap.objs.size := HsB.lt (t := false) p1.isList
  have lb : @LT.lt Nat _ b s2.heap.objs.size := HsB.lt (t := false) p2.isList
  have us_n : us.toArray.size = xs.length := by rw [List.size_toArray, r1.length]
  refine zipR_begins (begins_list b vs.toArray) (c := (us.toArray.size : Int) - 1) (l := a) ⟨_, P0.1, rfl, rfl⟩ p2.isList fun g z0 z1 z2 g1 k => wpAny_pyIter_zip z0 ?_
  have I6 : Inv X pins σ H2 { s2 with heap := g } := I5.kept (t' := s2.toks) k
  generalize s1.heap.objs.size = r at *
  generalize hN : s2.heap.objs.size = N at *
  have nb : @Ne Nat b r := fun e => by
    subst e
    obtain ⟨o, eo, co, _⟩ := p2.isList
    have eo2 := P0.1
    rw [show (b, revObj a ((us.toArray.size : Int) - 1)).1 = b from rfl, eo] at eo2
    rw [Option.some.inj eo2] at co
    exact absurd (show "list_reverseiterator" = "list" from Value.type.inj co) (by decide)
  have S : ZipSep2 (N + 3) (N + 1) (N + 2) r N [r, a] [N, b] := by
    constructor <;> first | (refine PySem.W.neN ?_; omega) | exact List.mem_cons_self | (refine nm2 ?_ ?_ <;> refine PySem.W.neN ?_ <;> omega)
  refine ⟨N + 3, _, _, _, H2, rfl, I6, turn_zipR xs.length S (Nat.ne_of_lt la) (Nat.ne_of_lt lb), ⟨z0, z1, ⟨_, _, z2⟩, ⟨Nat.zero_le _, ?_⟩, ⟨_, g1, rfl, rfl⟩⟩, fun c hc => ?_, q3⟩
  · exact ⟨_, k _ _ P0.1, rfl, by rw [us_n]; show Data.fields #[.ref a, rawInt ((xs.length : Int) - 1)] = Data.fields #[.ref a, rawInt ((xs.length : Int) - 1 - ((0 : Nat) : Int))]; rw [show (xs.length : Int) - 1 - ((0 : Nat) : Int) = (xs.length : Int) - 1 by omega]⟩
  · have big : ∀ c, N ≤ c → FpOk X pins H2 c := fun c le => I5.fpOk (by rw [hN]; exact le) (I5.hok.fresh (by rw [hN]; exact le))
    exact fp5 (p := fun c => FpOk X pins H2 c) hc (big _ (Nat.le_add_right _ _)) (big _ (Nat.le_add_right _ _)) (big _ (Nat.le_add_right _ _)) FR (big _ (Nat.le_refl _))
def LcZR (K : PySem.W.Frag) (a b : Addr) (n : Nat) := LcJ (Itr2 K a b n)
section
variable {K : PySem.W.Frag} {a b : Addr} {xs ys : List V} {g : TG} {σ : L2.St} {H : Hp} {te2 te3 : TE} {tt : TT} {te : TE} {vs : List Nat} {Q : VK}
theorem rd_lcZR : tLc (iZipR K te2 te3) g tt te vs σ H Q = te2 σ H fun v H1 => ∃ a xs, v = .ref a ∧ SqL K H1 a xs ∧ te3 σ H1 fun v2 H2 => ∃ b ys, v2 = .ref b ∧ SqL K H2 a xs ∧ SqL K H2 b ys ∧ LcZR K a b xs.length g tt te vs σ H2 Q := rfl
/-- the items are told, the first ones from the end -/
theorem LcZR.p {n : Nat} (hn : xs.length = n) (hn2 : ys.length = n) (y : Nat → Option V) (hm : n ≤ 10000000) (hx : ∀ H1, Same H H1 → SqL K H1 a xs ∧ SqL K H1 b ys)
    (hs : ∀ (i : Nat) (x x' : V), i < n → xs[n - 1 - i]? = some x → ys[i]? = some x' → ∀ H1 T, Same H H1 → H1 T = some (.tup [x, x']) → ∀ (M : VK) (S : Hp → Prop), (∀ v H2, y i = some v → Same H1 H2 → M v H2) → (∀ H2, y i = none → Same H1 H2 → S H2) →
      g (.ref T) (wipe σ vs) H1 fun σ2 H2 => wipe σ2 vs = wipe σ vs ∧ tt σ2 H2 fun b H3 => if b = true then te σ2 H3 M else S H3)
    (hd : ∀ D H', H D = none → Same H H' → H' D = some (.lst ((List.range n).filterMap y)) → Q (.ref D) H') : LcZR K a b n g tt te vs σ H Q := by
  intro D hD
  refine ⟨fun i m H1 => m = n - i ∧ i ≤ n ∧ ∃ zs, pureI H n y i zs H1 ∧ H1 D = some (.lst zs), ⟨_, rfl, Nat.zero_le _, [], ⟨same_upd hD, rfl, Nat.zero_le _⟩, upd_same⟩, ?_⟩
  rintro i m H1 ⟨rfl, hin, zs, p, hz1⟩
  obtain ⟨qx, qy⟩ := hx H1 p.1
  rcases Nat.lt_or_ge i n with c | c
  · have hxi : n - 1 - i < xs.length := by omega
    have hyi : i < ys.length := by omega
    refine .inr ⟨⟨xs, ys, _, _, ⟨qx, hn, c, List.getElem?_eq_getElem hxi⟩, qy, List.getElem?_eq_getElem hyi⟩, fun H' => ∃ zs, pureI H n y (i + 1) zs H' ∧ H' D = some (.lst zs), fun H' p' => ⟨n - (i + 1), by omega, rfl, c, p'⟩, fun v H' z => ?_⟩
    obtain ⟨T, x, x', rfl, hT, rfl, f1, f2⟩ := z
    have sT := same_upd (o := HO.tup [x, x']) hT
    refine hs i x x' c (f1 xs qx) (f2 ys qy) _ T (p.1.trans sT) upd_same (fun y H4 => ∃ acc, H4 D = some (.lst acc) ∧ acc.length < sizeLine ∧ ∃ zs, pureI H n _ (i + 1) zs (upd H4 D (.lst (acc ++ [y]))) ∧ (upd H4 D (.lst (acc ++ [y]))) D = some (.lst zs)) _ (fun v H2 e s2 => ?_) (fun H2 e s2 => ?_)
    · have hz2 := s2 _ _ (sT _ _ hz1)
      refine ⟨zs, hz2, pureI.z hm i zs H1 p, zs ++ [v], pureI.ind (i + 1) (zs ++ [v]) H2 D zs _ ⟨(p.1.trans sT).trans s2, ?_, by omega⟩ hD hz2, upd_same⟩
      rw [List.range_succ, List.filterMap_append, List.filterMap_cons, e, ← p.2.1]
      rfl
    · refine ⟨zs, ⟨(p.1.trans sT).trans s2, ?_, by omega⟩, s2 _ _ (sT _ _ hz1)⟩
      rw [List.range_succ, List.filterMap_append, List.filterMap_cons, e, List.filterMap_nil, List.append_nil, ← p.2.1]
  · have e : i = n := by omega
    subst e
    exact .inl ⟨⟨xs, ys, ⟨qx, qy⟩, hn, Nat.le_refl _, by omega, .inl rfl⟩, hd D H1 hD p.1 (by rw [← p.2.1]; exact hz1)⟩
theorem LcZR.w {n : Nat} (hn : xs.length = n) (hn2 : ys.length = n) (Pw : Nat → Addr → List V → Hp → Prop) (h0 : ∀ D, H D = none → Pw 0 D [] (upd H D (.lst []))) (hl : ∀ D i zs H1, i ≤ n → Pw i D zs H1 → SqL K H1 a xs ∧ SqL K H1 b ys)
    (hs : ∀ (D : Addr) (i : Nat) (x x' : V) (zs : List V) (H1 : Hp) (T : Addr), i < n → xs[n - 1 - i]? = some x → ys[i]? = some x' → Pw i D zs H1 → H1 T = none → ∀ N : Hp → Prop, (∀ zs' H', Pw (i + 1) D zs' H' → N H') →
      g (.ref T) (wipe σ vs) (upd H1 T (.tup [x, x'])) fun σ2 H2 => wipe σ2 vs = wipe σ vs ∧ tt σ2 H2 fun b H3 => if b = true then te σ2 H3 fun y H4 => ∃ acc, H4 D = some (.lst acc) ∧ acc.length < sizeLine ∧ N (upd H4 D (.lst (acc ++ [y]))) else N H3)
    (hd : ∀ D zs H', H D = none → Pw n D zs H' → Q (.ref D) H') : LcZR K a b n g tt te vs σ H Q := by
  intro D hD
  refine ⟨fun i m H1 => m = n - i ∧ i ≤ n ∧ ∃ zs, Pw i D zs H1, ⟨_, rfl, Nat.zero_le _, [], h0 D hD⟩, ?_⟩
  rintro i m H1 ⟨rfl, hin, zs, p⟩
  obtain ⟨qx, qy⟩ := hl D i zs H1 hin p
  rcases Nat.lt_or_ge i n with c | c
  · have hxi : n - 1 - i < xs.length := by omega
    have hyi : i < ys.length := by omega
    refine .inr ⟨⟨xs, ys, _, _, ⟨qx, hn, c, List.getElem?_eq_getElem hxi⟩, qy, List.getElem?_eq_getElem hyi⟩, fun H' => ∃ zs', Pw (i + 1) D zs' H', fun H' p' => ⟨n - (i + 1), by omega, rfl, c, p'⟩, fun v H' z => ?_⟩
    obtain ⟨T, x, x', rfl, hT, rfl, f1, f2⟩ := z
    exact hs D i x x' zs H1 T c (f1 xs qx) (f2 ys qy) p hT _ fun zs' H' p' => ⟨zs', p'⟩
  · have e : i = n := by omega
    subst e
    exact .inl ⟨⟨xs, ys, ⟨qx, qy⟩, hn, Nat.le_refl _, by omega, .inl rfl⟩, hd D zs H1 hD p⟩
end
theorem rd_revR1 {ta : TE} {g : TG} {tb : TS} {D : Ends} {σ : L2.St} {H : Hp} : tFor (iRevR (tRg1 ta)) g tb D σ H = ta σ H fun x H1 => ∃ n : Int, x = .int n ∧ -(2 ^ 62) ≤ (0 : Int) ∧ (0 : Int) < 2 ^ 62 ∧ -(2 ^ 62) ≤ n ∧ n < 2 ^ 62 ∧ ForC (0 + (((n - 0).toNat : Nat) : Int) - 1) (-1) (n - 0).toNat g tb D σ H1 := rfl
theorem sl_tupAK {X : Cx} {K : PySem.W.Frag} (h : X.K = K) : SlR X (rSlA K) := by
  subst h
  exact sl_tupA
end CB
/-! enumerate of a list -/
namespace CB
open PySem PySem.Spec PyProof.Rows L2
def IteL (K : PySem.W.Frag) (a : Addr) : It :=
  ⟨fun i H => ∃ (xs : List V) (x : V), SqL K H a xs ∧ xs[i]? = some x, fun i H v H1 => ∃ T x, v = .ref T ∧ H T = none ∧ H1 = upd H T (.tup [.int (i : Nat), x]) ∧ ∀ xs, SqL K H a xs → xs[i]? = some x, fun i H => ∃ xs : List V, SqL K H a xs ∧ xs.length = i⟩
theorem turn_enumL {P : Program} {w : World} {K : PySem.W.Frag} {elts : List Expr} {kk : Nat} {tpos : Pos} (a e it : Addr) :
    Turn P w K (.Tuple elts kk tpos) (IteL K a) [e, it] e (fun i h => (∃ old, IsEnum h e it ((i : Nat) : Int) old) ∧ h.IsListIter it a i ∧ e ≠ it ∧ e ≠ a ∧ a ≠ it) where
  mem := List.mem_cons_self
  obj := fun i h st b hb => by
    obtain ⟨⟨old, en⟩, ⟨o, ho, _, hd⟩, _⟩ := st
    rcases (by simpa using hb : b = e ∨ b = it) with rfl | rfl
    · exact ⟨_, en, fun v q => nomatch q⟩
    · refine ⟨o, ho, fun v q => ?_⟩
      rw [hd] at q
      cases q
  keep := fun i h h1 st k => by
    obtain ⟨⟨old, en⟩, hi, ne⟩ := st
    exact ⟨⟨old, k e List.mem_cons_self _ en⟩, hi.at fun o q => k it (List.mem_cons_of_mem _ List.mem_cons_self) o q, ne⟩
  item := by
    intro X hP hw hK hc i pins s σ H E I hf st hg
    subst hP hw hK
    obtain ⟨⟨old, en⟩, hit, ne, nea, nai⟩ := st
    obtain ⟨xs, x, hq, hx⟩ := hg
    obtain ⟨its, rv, tp, _⟩ := I.list hq
    obtain ⟨u, hu, ru⟩ := rv.get hx
    have lte : e < s.heap.objs.size := Heap.lt_size en
    have lti : it < s.heap.objs.size := by
      obtain ⟨_, q, _⟩ := hit
      exact Heap.lt_size q
    have ilt : i < its.toArray.size := by
      rw [List.size_toArray]
      exact (List.getElem?_eq_some_iff.mp hu).1
    refine wpAny_pyNext_enum_itemD (Draws.list (A := X.A.in1) (I.ok.hd hc) it a nai its.toArray) en ⟨hit, show s.heap.IsList a its.toArray from tp.isList⟩ ilt ne (by simp [ne, nea]) fun x1 h1 tk hx1 ho st1 hT sz hk => ?_
    have ex1 : x1 = u := by
      have z : its[i]? = some x1 := by simpa using hx1
      rw [hu] at z
      cases z
      rfl
    subst ex1
    refine ⟨_, rfl, wpAny_letOwnedTupleGo_enum (s := { s with heap := h1, toks := tk + 1 }) ho fun h2 en2 sb => ?_⟩
    have hT2 : h2.get? s.heap.objs.size = some { cls := .type "tuple", data := .seq #[.int i tk, x1] } := (sb.2 _ (Nat.ne_of_gt lte)).trans hT
    have fresh : ObjOk X.prog X.w (upd H s.heap.objs.size (.tup [.int (i : Nat), x])) h2 s.heap.objs.size (.tup [.int (i : Nat), x]) :=
      ⟨by show 2 ≤ sizeLine; decide, [.int i tk, x1], .cons ⟨_, rfl⟩ (.cons ru .nil), ⟨_, hT2, rfl, _, rfl⟩⟩
    have I2 : Inv X pins σ (upd H s.heap.objs.size (.tup [.int (i : Nat), x])) { s with heap := h2, toks := tk + 1 } :=
      I.turnedNew (ch := [e, it]) (fun b ob hb q => (sb.2 b (fun z => hb (by simp [z]))).trans (hk b ob (fun z => hb (by simp [z])) (fun z => hb (by simp [z])) q)) hf (Nat.le_refl _) fresh
    refine ⟨.ref s.heap.objs.size, _, I2, rfl, ⟨_, x, rfl, I.hok.fresh (Nat.le_refl _), rfl, fun ys hy => by rw [I.list_inj hy hq]; exact hx⟩, ⟨⟨x1, ?_⟩, st1.1.at fun o q => (sb.2 it (Ne.symm ne)).trans q, ne, nea, nai⟩, fun b hb => ?_⟩
    · rw [show ((i + 1 : Nat) : Int) = (i : Int) + 1 by omega]
      exact en2
    · have lt : b < s.heap.objs.size := by
        rcases (by simpa using hb : b = e ∨ b = it) with rfl | rfl
        · exact lte
        · exact lti
      rw [upd_ne (Nat.ne_of_lt lt)]
      exact (hf b hb).1
  done := by
    intro X hP hw hK hc i pins s σ H E I hf st hg
    subst hP hw hK
    obtain ⟨⟨old, en⟩, hit, ne, nea, nai⟩ := st
    obtain ⟨xs, hq, hx⟩ := hg
    obtain ⟨its, rv, tp, _⟩ := I.list hq
    obtain ⟨g0, g1, g2, g3, g4, g5⟩ := hf it (List.mem_cons_of_mem _ List.mem_cons_self)
    have sz : its.toArray.size = i := by
      have := rv.length
      rw [List.size_toArray]
      omega
    subst sz
    exact wpAny_pyNext_enum_endD (Draws.list (A := X.A.in1) (I.ok.hd hc) it a nai its.toArray) en ⟨hit, show s.heap.IsList a its.toArray from tp.isList⟩ fun h1 eb => ⟨rfl, I.turned (t' := s.toks) (fun b o hb q => eb b o hb q) g0 g1 g3 g4 g5⟩
  self := fun A i s Q E st h => let ⟨⟨_, en⟩, _⟩ := st; wpAny_pyIter_enum en h
def iEnumL (K : PySem.W.Frag) (ta : TA) : TI := fun σ H R => ta σ H fun vs H1 => ∃ a xs, vs = [.ref a] ∧ SqL K H1 a xs ∧ R (IteL K a) H1
theorem pi_enumL {X : Cx} {e : Expr} {ta : TA} {p pos tpos : Pos} {elts : List Expr} {kk : Nat} (hg : Gl X "enumerate") (hm : X.mg "enumerate" = none) (ha : PA X [e] ta) (hs : starEach [e] X.env = [(false, eval e X.env)] := by rfl) :
    PI X (.Tuple elts kk tpos) (.Call (.Name "enumerate" p) [e] [] pos) (iEnumL X.K ta) := by
  refine ⟨fun pins s σ H R I h => ?_⟩
  refine Call_ (ld_blt I hg hm boot_enumerate (PyProof.Rows.callWith_type1 (thn (ha.run pos pins s σ H _ I h) fun us s1 ⟨vs, H1, I1, r1, a, xs, ex, hq, q⟩ => ?_) hs rfl))
  subst ex
  rw [Vals.ref1 r1]
  obtain ⟨its, rv, tp, _⟩ := I1.list hq
  have tp' : s1.heap.IsList a its.toArray := tp.isList
  have lta : a < s1.heap.objs.size := by
    obtain ⟨_, z, _⟩ := tp'
    exact Heap.lt_size z
  refine enum1_at (begins_list a its.toArray) tp' fun h1 en hi hk => wpAny_pyIter_enum en ?_
  have I2 : Inv X pins σ H1 { s1 with heap := h1 } := I1.kept (t' := s1.toks) hk
  refine ⟨s1.heap.objs.size + 1, [s1.heap.objs.size + 1, s1.heap.objs.size], _, _, H1, rfl, I2, turn_enumL a (s1.heap.objs.size + 1) s1.heap.objs.size, ⟨⟨.none, en⟩, ⟨_, hi, rfl, rfl⟩, Nat.succ_ne_self _, Nat.ne_of_gt (Nat.lt_succ_of_lt lta), Nat.ne_of_lt lta⟩, fun b hb => ?_, q⟩
  have le : s1.heap.objs.size ≤ b := by
    rcases (by simpa using hb : b = s1.heap.objs.size + 1 ∨ b = s1.heap.objs.size) with rfl | rfl
    · exact Nat.le_succ _
    · exact Nat.le_refl _
  exact I1.fpOk le (I1.hok.fresh le)
def ForEL (K : PySem.W.Frag) (a : Addr) := ForJ (IteL K a)
section
variable {K : PySem.W.Frag} {a : Addr} {xs : List V} {g : TG} {tb : TS} {D : Ends} {σ : L2.St} {H : Hp} {ta : TA} {tt : TT} {te : TE} {vs : List Nat} {Q : VK}
theorem rd_forEL : tFor (iEnumL K ta) g tb D σ H = ta σ H fun us H1 => ∃ a xs, us = [.ref a] ∧ SqL K H1 a xs ∧ ForEL K a g tb D σ H1 := rfl
theorem ForEL.w (Pw : Nat → L2.St → Hp → Prop) (h0 : Pw 0 σ H) (hl : ∀ i σ H, i ≤ xs.length → Pw i σ H → SqL K H a xs)
    (hs : ∀ (i : Nat) (x : V) (T : Addr) σ H, xs[i]? = some x → Pw i σ H → H T = none → ∀ N : L2.St → Hp → Prop, (∀ σ' H', Pw (i + 1) σ' H' → N σ' H') → g (.ref T) σ (upd H T (.tup [.int (i : Nat), x])) fun σ2 H2 => tb { D with nx := N, ct := N, bk := D.nx } σ2 H2)
    (hd : ∀ σ H, Pw xs.length σ H → D.nx σ H) : ForEL K a g tb D σ H := by
  refine ⟨fun i m σ H => m = xs.length - i ∧ i ≤ xs.length ∧ Pw i σ H, ⟨_, rfl, Nat.zero_le _, h0⟩, ?_⟩
  rintro i m σ H ⟨rfl, hi, p⟩
  have hq := hl i σ H hi p
  rcases Nat.lt_or_ge i xs.length with c | c
  · have hx : xs[i]? = some xs[i] := List.getElem?_eq_getElem c
    refine .inr ⟨⟨xs, _, hq, hx⟩, Pw (i + 1), fun σ' H' p' => ⟨xs.length - (i + 1), by omega, rfl, c, p'⟩, fun v H' y => ?_⟩
    obtain ⟨T, x, rfl, hT, rfl, f⟩ := y
    exact hs i x T σ H (f xs hq) p hT _ fun _ _ h => h
  · have e : i = xs.length := by omega
    subst e
    exact .inl ⟨⟨xs, hq, rfl⟩, hd σ H p⟩
end
/-! ### a comprehension within a comprehension -/
theorem rel_fc {env : Env} : ∀ {names : List (Str × NameKind)} {x : Str}, names.lookup x = some .cell ∨ names.lookup x = some .free →
    (names.map fun (n, k) => if (k == NameKind.free && env.scope.kind == .function && env.kindOf n == some .cell) then (n, NameKind.cell) else (n, k)).lookup x = some .cell ∨
    (names.map fun (n, k) => if (k == NameKind.free && env.scope.kind == .function && env.kindOf n == some .cell) then (n, NameKind.cell) else (n, k)).lookup x = some .free
  | [], _, h => by simp at h
  | (n, k) :: r, x, h => by
    have ih := @rel_fc env r x
    show List.lookup x ((if (k == NameKind.free && env.scope.kind == .function && env.kindOf n == some .cell) = true then (n, NameKind.cell) else (n, k)) :: _) = _ ∨ List.lookup x ((if (k == NameKind.free && env.scope.kind == .function && env.kindOf n == some .cell) = true then (n, NameKind.cell) else (n, k)) :: _) = _
    cases hx : x == n with
    | true =>
      simp only [List.lookup_cons, hx] at h
      by_cases hc : (k == NameKind.free && env.scope.kind == .function && env.kindOf n == some .cell) = true
      · rw [if_pos hc]
        simp [List.lookup_cons, hx]
      · rw [if_neg hc]
        simp only [List.lookup_cons, hx]
        exact h
    | false =>
      simp only [List.lookup_cons, hx] at h
      by_cases hc : (k == NameKind.free && env.scope.kind == .function && env.kindOf n == some .cell) = true
      · rw [if_pos hc]; simp only [List.lookup_cons, hx]; exact ih h
      · rw [if_neg hc]; simp only [List.lookup_cons, hx]; exact ih h
theorem blkOk_in {X : Cx} {s : Shared} {H : Hp} {sc0 scope : Scope} {cl : List (Str × Addr)} {C : Addr} {E0 : Env} {fp : List Addr} {own : List (Str × Nat)} {N : List Str} (hN : X.N = N) (h : blkC N sc0 scope own = true) :
    BlkOk (X.blk s H sc0 (compEnvC sc0 cl C E0) fp).N (X.blk s H sc0 (compEnvC sc0 cl C E0) fp).env.scope scope own := by
  have o := blkOk_by h
  refine ⟨o.kind, o.uniq, fun p hp => ?_, fun y hy e => rel_fc (o.free y hy e), fun y hy e => ?_⟩
  · show X.N[p.2]? = _
    rw [hN]
    exact o.ix p hp
  · show _ ∨ y.1 ∉ X.N
    rw [hN]
    exact o.own y hy e
theorem cr_sumK {X : Cx} {K : PySem.W.Frag} (h : X.K = K) (hc : X.calm = true) : CallR X (.builtin "sum") (rSum K) := by
  subst h
  exact cr_sum hc
theorem cr_tupOfK {X : Cx} {K : PySem.W.Frag} (h : X.K = K) : CallR X (.type "tuple") (rTupOf K) := by
  subst h
  exact cr_tupOf
theorem cr_lenK {X : Cx} {K : PySem.W.Frag} (h : X.K = K) : CallR X (.builtin "len") (rLenS K) := by
  subst h
  exact cr_lenS
end CB
namespace L01
open PySem PySem.Spec PyProof.Rows L2 CB
def top (i : Nat) : Stmt := PySem.Challenge.pw_classledger_k01_moduli_and_signs.main.body.getD i (.Pass ⟨0, 0, 0, 0⟩)
structure Bl (mg : Str → Option Value) : Prop where
  abs : mg "abs" = none
  int : mg "int" = none
  bool : mg "bool" = none
  str : mg "str" = none
  tuple : mg "tuple" = none
  max : mg "max" = none
  range : mg "range" = none
  isinstance : mg "isinstance" = none
  len : mg "len" = none
  all : mg "all" = none
  divmod : mg "divmod" = none
local macro_rules | `(tactic| walk_at "rd") => `(tactic| simp (maxSteps := 2000000) only [CB.rd_var, CB.rd_C, CB.rd_op, CB.rd_un, CB.rd_I, CB.rd_I0, CB.rd_U, CB.rd_Eq, CB.rd_Ne, CB.rd_test, CB.rd_B, CB.rd_and, CB.rd_or, CB.rd_not, CB.rd_andV, CB.rd_orV, CB.rd_notV, CB.rd_if, CB.rd_chain, CB.rd_chain3,
  CB.rd_next, CB.rd_seq, CB.rd_drop, CB.rd_ret, CB.rd_retN, CB.rd_break, CB.rd_cont, CB.rd_ifS, CB.rd_asg, CB.rd_name, CB.rd_gsub, CB.rd_gtup, CB.rd_gcons, CB.rd_gnil, CB.rd_par, CB.rd_aug, CB.rd_ipI, CB.rd_nil, CB.rd_cons, CB.rd_tup, CB.rd_lst, CB.rd_CB, CB.rd_call, CB.rd_callS, CB.rd_ixL, CB.rd_ixT, CB.rd_setL, CB.rd_putS, CB.rd_forZ, CB.rd_lcZ, CB.rd_forE, CB.rd_isqrt, CB.rd_sum, CB.rd_append, CB.rd_forL, CB.rd_forT, CB.rd_forR1, CB.rd_forR2, CB.rd_forR3, CB.rd_lcL, CB.rd_lcT, CB.rd_lcR1, CB.rd_lcR2, CB.rd_yes, CB.rd_sl, CB.rd_noPart, CB.rd_part, CB.rd_slL, CB.rd_wipe0, CB.rd_rep, CB.rd_tupOf, CB.rd_lenS, CB.rd_gcd, CB.rd_wipe1, CB.rd_sorted3, CB.rd_any, CB.rd_all, CB.rd_ext, CB.rd_glst, CB.rd_sortedM, CB.rd_minD, CB.rd_indexD, CB.rd_pop, CB.rd_dnew, CB.rd_dget, CB.rd_dget2, CB.rd_dput, CB.rd_dm, CB.rd_catA, CB.rd_slA, CB.rd_repT, CB.rd_anyI, CB.rd_ixDC, CB.rd_inDC, CB.rd_cat,
  L2.start, List.map_cons, List.map_nil, List.length_cons, List.length_nil, Nat.reduceAdd, Nat.reduceSub, List.replicate_succ, List.replicate_zero,
  V.int.injEq, V.ref.injEq, V.bl.injEq, V.str.injEq, Option.some.injEq, List.cons.injEq, exists_and_left, exists_eq_left', exists_eq_left, reduceCtorEq, false_and, and_false, or_false, false_or, exists_false, exists_const, and_assoc, true_and, and_true,
  CB.scal_int, CB.scal_str, CB.dec_ii, CB.ite_dec, CB.ite_ndec, List.getElem?_cons_zero, List.getElem?_cons_succ, List.set_cons_zero, List.set_cons_succ, List.append_nil, List.cons_append, List.nil_append, if_true, if_false, Bool.false_eq_true, Bool.not_true, Bool.not_false, CB.K_nox, CB.K_cxOf, eq_self])
local macro_rules | `(tactic| walk_at "rs") => `(tactic| simp (maxSteps := 2000000) only [CB.rd_var, CB.rd_C, CB.rd_op, CB.rd_un, CB.rd_I, CB.rd_I0, CB.rd_U, CB.rd_Eq, CB.rd_Ne, CB.rd_test, CB.rd_B, CB.rd_and, CB.rd_or, CB.rd_not, CB.rd_andV, CB.rd_orV, CB.rd_notV, CB.rd_if, CB.rd_chain, CB.rd_chain3,
  CB.rd_next, CB.rd_drop, CB.rd_ret, CB.rd_retN, CB.rd_break, CB.rd_cont, CB.rd_ifS, CB.rd_asg, CB.rd_name, CB.rd_gsub, CB.rd_gtup, CB.rd_gcons, CB.rd_gnil, CB.rd_par, CB.rd_aug, CB.rd_ipI, CB.rd_nil, CB.rd_cons, CB.rd_tup, CB.rd_lst, CB.rd_CB, CB.rd_call, CB.rd_callS, CB.rd_ixL, CB.rd_ixT, CB.rd_setL, CB.rd_putS, CB.rd_forZ, CB.rd_lcZ, CB.rd_forE, CB.rd_isqrt, CB.rd_sum, CB.rd_append, CB.rd_forL, CB.rd_forT, CB.rd_forR1, CB.rd_forR2, CB.rd_forR3, CB.rd_lcL, CB.rd_lcT, CB.rd_lcR1, CB.rd_lcR2, CB.rd_yes, CB.rd_sl, CB.rd_noPart, CB.rd_part, CB.rd_slL, CB.rd_wipe0, CB.rd_rep, CB.rd_tupOf, CB.rd_lenS, CB.rd_gcd, CB.rd_wipe1, CB.rd_sorted3, CB.rd_any, CB.rd_all, CB.rd_ext, CB.rd_glst, CB.rd_sortedM, CB.rd_minD, CB.rd_indexD, CB.rd_pop, CB.rd_dnew, CB.rd_dget, CB.rd_dget2, CB.rd_dput, CB.rd_dm, CB.rd_catA, CB.rd_slA, CB.rd_repT, CB.rd_anyI, CB.rd_ixDC, CB.rd_inDC, CB.rd_cat,
  L2.start, List.map_cons, List.map_nil, List.length_cons, List.length_nil, Nat.reduceAdd, Nat.reduceSub, List.replicate_succ, List.replicate_zero,
  V.int.injEq, V.ref.injEq, V.bl.injEq, V.str.injEq, Option.some.injEq, List.cons.injEq, exists_and_left, exists_eq_left', exists_eq_left, reduceCtorEq, false_and, and_false, or_false, false_or, exists_false, exists_const, and_assoc, true_and, and_true,
  CB.scal_int, CB.scal_str, CB.dec_ii, CB.ite_dec, CB.ite_ndec, List.getElem?_cons_zero, List.getElem?_cons_succ, List.set_cons_zero, List.set_cons_succ, List.append_nil, List.cons_append, List.nil_append, if_true, if_false, Bool.false_eq_true, Bool.not_true, Bool.not_false, CB.K_nox, CB.K_cxOf, eq_self])

local macro_rules | `(tactic| walk_at "nx") => `(tactic| (show tSeq _ _ _ _ _; rw [CB.rd_seq]; walk_at "rs"))


section
variable {P : Program} {w : World} {K : PySem.W.Frag} {mg : Str → Option Value} {base : Heap}
/-! ### the draws -/
abbrev s__law_take : Stmt := top 9
theorem sc__law_take : FnScope ["state", "m", "value"] ["state", "m"] (defScope s__law_take) := ⟨rfl, rfl, rfl, by decide +kernel, rfl, by decide +kernel, by decide +kernel⟩

def spTake : Sp := fun vs H Q _ => ∃ (a : Addr) (x y m : Int), vs = [.ref a, .int m] ∧ H a = some (.lst [.int x, .int y]) ∧ 0 < m ∧ m.natAbs.log2 < 9000 ∧
  ∀ v x' y' : Int, 0 ≤ v → v < m → Q (.int v) (upd H a (.lst [.int x', .int y']))
theorem cal_take (D : Dn K mg "_law_take" s__law_take ["state", "m"]) (B : Bl mg) : Cal P w K mg base "_law_take" 1 ["state", "m"] spTake := by
  refine D.cal sc__law_take (fun vs H Q E h => ?_) (fun f cdv A outer s H vs Q E hr h => ?_)
  · obtain ⟨a, x, y, m, rfl, _⟩ := h
    rfl
  · obtain ⟨a, x, y, m, rfl, ha, hm, hz, q⟩ := h
    refine ⟨_, (pss_cons (ps_if (pt_cmpR op_gt (pe_ix ix_list (pv 0) pe_int (fun _ _ => rfl)) pe_int (nomark _)) (pss_cons (ps_set (i := 2) sc__law_take.nd rfl (Or.inl rfl) (pe_op op_mod (pe_callTy call_int1 rfl B.int boot_int (pa_cons (pe_ix ix_list (pv 0) pe_int (fun _ _ => rfl)) pa_nil)) (pv 1)))
  (pss_cons (ps_asg (pe_op op_fdivW (pe_ix ix_list (pv 0) pe_int (fun _ _ => rfl)) (pv 1)) (pg_sub (pv 0) pe_int set_list))
  (pss_one (ps_ret (pv 2))))) pss_nil)
  (pss_cons (ps_asg (pe_op op_mod (pe_callTy call_int1 rfl B.int boot_int (pa_cons (pe_op op_add (pe_op op_mulI (pe_ix ix_list (pv 0) pe_int (fun _ _ => rfl)) pe_int) pe_int) pa_nil)) pe_int) (pg_sub (pv 0) pe_int set_list))
  (pss_one (ps_ret (pe_op op_mod (pe_callTy call_int1 rfl B.int boot_int (pa_cons (pe_op op_fdivW (pe_ix ix_list (pv 0) pe_int (fun _ _ => rfl)) pe_int) pa_nil)) (pv 1)))))), ?_⟩
    walk_at "rd"
    refine ⟨_, SqL.of ha, _, rfl, _, rfl, ite2 (fun h => ?_) (fun h => ?_)⟩
    · refine ⟨_, SqL.of ha, _, rfl, .inl ⟨_, rfl, hm, _, SqL.of ha, _, rfl, _, rfl, ⟨hm, hz⟩, _, ha, _, rfl, ?_⟩⟩
      exact q _ _ _ (Int.emod_nonneg _ (by omega)) (Int.emod_lt_of_pos _ hm)
    · refine ⟨_, SqL.of ha, _, rfl, _, rfl, mulR (by decide), by decide, _, ha, _, rfl, _, SqL.of upd_same, _, rfl, _, rfl, ⟨by decide, by decide +kernel⟩, hm, ?_⟩
      exact q _ _ _ (Int.emod_nonneg _ (by omega)) (Int.emod_lt_of_pos _ hm)
abbrev s__law_state : Stmt := top 8
theorem sc__law_state : FnScope ["script", "seed", "total", "cell"] ["script"] (defScope s__law_state) := ⟨rfl, rfl, rfl, by decide +kernel, rfl, by decide +kernel, by decide +kernel⟩

def spState (K : PySem.W.Frag) : Sp := fun vs H Q _ => ∃ (a : Addr) (ns : List Int), vs = [.ref a] ∧ SqL K H a (ns.map V.int) ∧ ns.length ≤ 63 ∧
  ∀ (p : Addr) (x y : Int) (H' : Hp), Same H H' → H p = none → H' p = some (.lst [.int x, .int y]) → Q (.ref p) H'
theorem cutV63 {ns : List Int} (h : ns.length ≤ 63) : cutV (ns.map V.int) none (some 63) = ns.map V.int := by
  unfold cutV
  rw [HT.sIx_none, show HT.sIx (ns.map V.int).length (ns.map V.int).length (some 63) = min 63 (ns.map V.int).length from HT.sIx_nat _ _ 63, List.length_map, List.drop_zero]
  rw [show min 63 ns.length - 0 = (ns.map V.int).length by rw [List.length_map]; omega, List.take_length]
theorem cal_state (D : Dn K mg "_law_state" s__law_state ["script"]) (B : Bl mg) : Cal P w K mg base "_law_state" 1 ["script"] (spState K) := by
  refine D.cal sc__law_state (fun vs H Q E h => ?_) (fun f cdv A outer s H vs Q E hr h => ?_)
  · obtain ⟨a, ns, rfl, _⟩ := h
    rfl
  · obtain ⟨a, ns, rfl, hS, hl, q⟩ := h
    refine ⟨_, (pss_cons (ps_set (i := 1) sc__law_state.nd rfl (Or.inl rfl) pe_int)
  (pss_cons (ps_set (i := 2) sc__law_state.nd rfl (Or.inl rfl) pe_int)
  (pss_cons (ps_for PassesOwn.never rfl (pi_list (pe_slice sl_list (pv 0) po_none (po_some pe_int))) (pg_name (i := 3) sc__law_state.nd rfl (Or.inl rfl)) (pss_cons (ps_set (i := 1) sc__law_state.nd rfl (Or.inl rfl) (pe_op op_add (pe_op op_mulI (pv 1) pe_int) (pe_callB call_abs rfl B.abs (by decide +kernel) (pa_cons (pv 3) pa_nil))))
  (pss_one (ps_set (i := 2) sc__law_state.nd rfl (Or.inl rfl) (pe_op op_mod (pe_callTy call_int1 rfl B.int boot_int (pa_cons (pe_op op_add (pe_op op_mulI (pv 2) pe_int) (pv 3)) pa_nil)) pe_int)))))
  (pss_one (ps_ret (pe_lst (pa_cons (pv 1) (pa_cons (pv 2) pa_nil)))))))), ?_⟩
    walk_at "rd"
    refine ⟨_, hS, fun c nc => ?_⟩
    rw [cutV63 hl]
    have hc : SqL K (upd H c (.lst (ns.map V.int))) c (ns.map V.int) := SqL.of upd_same
    refine ⟨⟨_, hc⟩, ForL.mk (xs := ns.map V.int) (fun _ σ H' => ∃ x y z, σ = [some (.ref a), some (.int x), some (.int y), z] ∧ H' = upd H c (.lst (ns.map V.int))) ⟨_, _, _, rfl, rfl⟩ ?_ ?_ ?_⟩
    · rintro i σ H' _ ⟨x, y, z, rfl, rfl⟩
      exact hc
    · rintro i v σ H' hv ⟨x, y, z, rfl, rfl⟩
      rw [List.getElem?_map] at hv
      obtain ⟨n, _, rfl⟩ := Option.map_eq_some_iff.mp hv
      walk_at "rd"
      exact ⟨mulR (by decide), mulR (by decide), by decide, _, rfl⟩
    · rintro σ H' ⟨x, y, z, rfl, rfl⟩
      walk_at "rd"
      refine ⟨by decide, fun p np => q p x y _ ((same_upd nc).trans (same_upd np)) ((same_upd nc).free np) upd_same⟩
/-! ### kinds of values -/
def kinds : List String := ["int", "bool", "NoneType", "str", "tuple", "list"]
theorem kit_k {T c : String} (hT : T ∈ kinds) (hc : c ∈ ["int", "bool", "str", "tuple"]) : kitB T c = some (T == c || (T == "bool" && c == "int")) := by
  unfold kinds at hT
  simp only [List.mem_cons, List.not_mem_nil, or_false] at hT hc
  rcases hT with rfl | rfl | rfl | rfl | rfl | rfl <;> rcases hc with rfl | rfl | rfl | rfl <;> decide +kernel
end

section
variable {P : Program} {w : World} {K : PySem.W.Frag} {mg : Str → Option Value} {base : Heap} {CM CR : Addr}
/-! ### values of any kind, told by the heap -/
/-- tuples are kept, and all lists but the one at st -/
def Kp (st : Addr) (H H' : Hp) : Prop := (∀ b us, H b = some (.tup us) → H' b = some (.tup us)) ∧ ∀ b us, b ≠ st → H b = some (.lst us) → H' b = some (.lst us)
/-- all but the list at st is kept -/
def But (st : Addr) (H H' : Hp) : Prop := ∀ b o, b ≠ st → H b = some o → H' b = some o
theorem But.refl {st : Addr} {H : Hp} : But st H H := fun _ _ _ e => e
theorem But.trans {st : Addr} {H H1 H2 : Hp} (a : But st H H1) (b : But st H1 H2) : But st H H2 := fun c o n e => b c o n (a c o n e)
theorem But.same {st : Addr} {H H1 H2 : Hp} (a : But st H H1) (b : Same H1 H2) : But st H H2 := fun c o n e => b c o (a c o n e)
theorem But.of {st : Addr} {H H1 : Hp} (b : Same H H1) : But st H H1 := fun c o n e => b c o e
theorem But.upd {st : Addr} {H H1 : Hp} {o : HO} (a : But st H H1) : But st H (upd H1 st o) := fun c o n e => by
  rw [upd_ne n]
  exact a c o n e
theorem Kp.refl {st : Addr} {H : Hp} : Kp st H H := ⟨fun _ _ e => e, fun _ _ _ e => e⟩
theorem Kp.of {st : Addr} {H H' : Hp} (s : Same H H') : Kp st H H' := ⟨fun _ _ e => s _ _ e, fun _ _ _ e => s _ _ e⟩
theorem But.kp {st : Addr} {H H' : Hp} {l : List V} (s : But st H H') (hs : H st = some (.lst l)) : Kp st H H' := ⟨fun _ _ e => s _ _ (ne_of e hs (by intro z; cases z)) e, fun _ _ n e => s _ _ n e⟩
theorem Kp.trans {st : Addr} {H H1 H2 : Hp} (a : Kp st H H1) (b : Kp st H1 H2) : Kp st H H2 := ⟨fun _ _ e => b.1 _ _ (a.1 _ _ e), fun _ _ n e => b.2 _ _ n (a.2 _ _ n e)⟩
def kdV : V → String
  | .bl _ => "bool"
  | .non => "NoneType"
  | .str _ => "str"
  | _ => "int"
def flV : V → Bool
  | .int _ => true
  | .bl _ => true
  | .non => true
  | .str _ => true
  | _ => false
/-- v is of the kind T -/
def KdH (st : Addr) (H : Hp) (v : V) (T : String) : Prop := (flV v = true ∧ T = kdV v) ∨ ∃ p, v = .ref p ∧ ((p ≠ st ∧ T = "list" ∧ ∃ l, H p = some (.lst l)) ∨ (T = "tuple" ∧ ∃ l, H p = some (.tup l)))
theorem KdH.ty {st : Addr} {H : Hp} {v : V} {T : String} (h : KdH st H v T) : TyX K H v (.type T) ∧ T ∈ kinds := by
  rcases h with ⟨hf, rfl⟩ | ⟨p, rfl, ⟨_, rfl, l, e⟩ | ⟨rfl, l, e⟩⟩
  · cases v with
    | int n => exact ⟨.base (.int _), by show "int" ∈ kinds; decide⟩
    | bl b => exact ⟨.base (.bl _), by show "bool" ∈ kinds; decide⟩
    | non => exact ⟨.base .non, by show "NoneType" ∈ kinds; decide⟩
    | str s => exact ⟨.base (.str _), by show "str" ∈ kinds; decide⟩
    | _ => cases hf
  · exact ⟨.base (.lst e), by decide⟩
  · exact ⟨.base (.tup e), by decide⟩
theorem KdH.kp {st : Addr} {H H' : Hp} {v : V} {T : String} (s : Kp st H H') (h : KdH st H v T) : KdH st H' v T := by
  rcases h with h | ⟨p, rfl, ⟨n, rfl, l, e⟩ | ⟨rfl, l, e⟩⟩
  · exact .inl h
  · exact .inr ⟨p, rfl, .inl ⟨n, rfl, l, s.2 _ _ n e⟩⟩
  · exact .inr ⟨p, rfl, .inr ⟨rfl, l, s.1 _ _ e⟩⟩
def ItsH (st : Addr) (H : Hp) (xs : List V) (ts : List String) : Prop := ts.length = xs.length ∧ ∀ (i : Nat) (x : V) (t : String), xs[i]? = some x → ts[i]? = some t → KdH st H x t
theorem ItsH.kp {st : Addr} {H H' : Hp} {xs : List V} {ts : List String} (s : Kp st H H') (h : ItsH st H xs ts) : ItsH st H' xs ts := ⟨h.1, fun i x t hx ht => (h.2 i x t hx ht).kp s⟩
theorem itsH_flat {st : Addr} {H : Hp} {xs : List V} (h : xs.all flV = true) : ItsH st H xs (xs.map kdV) := by
  refine ⟨List.length_map _, fun i x t hx ht => ?_⟩
  rw [List.getElem?_map, hx] at ht
  cases ht
  exact .inl ⟨List.all_eq_true.mp h x (List.mem_of_getElem? hx), rfl⟩
theorem itsH_one {st : Addr} {H : Hp} {p : Addr} {xs : List V} (h : H p = some (.tup xs)) : ItsH st H [V.ref p] ["tuple"] := by
  refine ⟨rfl, fun i x t hx ht => ?_⟩
  match i, hx, ht with
  | 0, hx, ht =>
    cases hx
    cases ht
    exact .inr ⟨p, rfl, .inr ⟨rfl, _, h⟩⟩
  | n + 1, hx, ht => simp at hx
/-- no row of n integers -/
def BadH (n : Nat) (st : Addr) (H : Hp) (v : V) : Prop := (∃ T, KdH st H v T ∧ (T == "tuple") = false) ∨ ∃ (p : Addr) (xs : List V) (ts : List String), v = .ref p ∧ H p = some (.tup xs) ∧ ItsH st H xs ts ∧ xs.length < 1000 ∧ (xs.length ≠ n ∨ ts.all (· == "int") = false)
theorem BadH.kp {n : Nat} {st : Addr} {H H' : Hp} {v : V} (s : Kp st H H') (h : BadH n st H v) : BadH n st H' v := by
  rcases h with ⟨T, h, e⟩ | ⟨p, xs, ts, rfl, hp, hI, hl, hb⟩
  · exact .inl ⟨T, h.kp s, e⟩
  · exact .inr ⟨p, xs, ts, rfl, s.1 _ _ hp, hI.kp s, hl, hb⟩
end

/-! ### whole roots -/
def isq (n : Int) : Int := ((Float64.isqrt n.toNat : Nat) : Int)
theorem isq_nn (n : Int) : 0 ≤ isq n := Int.natCast_nonneg _
theorem isq_le {n : Int} (h : 0 ≤ n) : isq n * isq n ≤ n := by
  have a := (isqrt_spec n.toNat).1
  have b : ((Float64.isqrt n.toNat * Float64.isqrt n.toNat : Nat) : Int) ≤ ((n.toNat : Nat) : Int) := Int.ofNat_le.mpr a
  rw [Int.natCast_mul] at b
  unfold isq
  omega
theorem isq_lt {n : Int} (h : 0 ≤ n) : n < (isq n + 1) * (isq n + 1) := by
  have a := (isqrt_spec n.toNat).2
  have b : ((n.toNat : Nat) : Int) < (((Float64.isqrt n.toNat + 1) * (Float64.isqrt n.toNat + 1) : Nat) : Int) := Int.ofNat_lt.mpr a
  rw [Int.natCast_mul, Int.natCast_add] at b
  unfold isq
  have e : ((1 : Nat) : Int) = 1 := rfl
  rw [e] at b
  omega
theorem sq_lt {r s : Int} (hr : 0 ≤ r) (h : r * r < (s + 1) * (s + 1)) (hs : 0 ≤ s) : r ≤ s := by
  rcases Int.lt_or_le s r with q | q
  · have a : (s + 1) * (s + 1) ≤ r * r := Int.mul_le_mul (by omega) (by omega) (by omega) hr
    omega
  · exact q
theorem isq_uniq {n r : Int} (hr : 0 ≤ r) (h1 : r * r ≤ n) (h2 : n < (r + 1) * (r + 1)) : isq n = r := by
  have hn : 0 ≤ n := Int.le_trans (Int.mul_nonneg hr hr) h1
  have a := sq_lt hr (Int.lt_of_le_of_lt h1 (isq_lt hn)) (isq_nn n)
  have b := sq_lt (isq_nn n) (Int.lt_of_le_of_lt (isq_le hn) h2) hr
  omega
theorem isq_iff {n a : Int} (hn : 0 ≤ n) (ha : 0 ≤ a) : a * a ≤ n ↔ a ≤ isq n := by
  refine ⟨fun h => sq_lt ha (Int.lt_of_le_of_lt h (isq_lt hn)) (isq_nn n), fun h => ?_⟩
  exact Int.le_trans (Int.mul_le_mul h h ha (isq_nn n)) (isq_le hn)
theorem isq_self {n : Int} (h0 : 0 ≤ n) (h : n < 2) : isq n = n := by
  have e : n = 0 ∨ n = 1 := by omega
  rcases e with rfl | rfl
  · exact isq_uniq (by omega) (by omega) (by omega)
  · exact isq_uniq (by omega) (by omega) (by omega)
theorem isq_bd {n c : Int} (hn : 0 ≤ n) (hc : 0 ≤ c) (h : n < (c + 1) * (c + 1)) : isq n ≤ c := sq_lt (isq_nn n) (Int.lt_of_le_of_lt (isq_le hn) h) hc
/-- a bound that omega doesn't read -/
def BIG : Int := 2 ^ 3000
theorem BIG_pos : 1000000000000 < BIG := by decide +kernel
theorem BIG_big : BIG < 2 ^ 13000 := by decide +kernel
theorem bigAbs {i : Int} (h1 : -(16 * BIG) < i) (h2 : i < 16 * BIG) : i.natAbs < 2 ^ 3004 := by
  have e : (16 * BIG : Int) = ((2 ^ 3004 : Nat) : Int) := by decide +kernel
  rw [e] at h1 h2
  omega
theorem mulBig {i j : Int} (h1 : -(16 * BIG) < i) (h2 : i < 16 * BIG) (h3 : -(16 * BIG) < j) (h4 : j < 16 * BIG) : IntMulOk i j :=
  (wide_mul (bigAbs h1 h2) (bigAbs h3 h4) (by decide) (by decide) (by decide)).ok
theorem low_le {a n : Int} (h0 : 0 ≤ a) (h : a * a ≤ n) : a ≤ n := by
  rcases Int.lt_or_le 0 a with q | q
  · have := Int.mul_le_mul (show 1 ≤ a by omega) (Int.le_refl a) h0 h0
    omega
  · have e : a = 0 := by omega
    rw [e] at h
    omega
theorem small_size {n : Nat} (h : n ≤ 10000000) : n < sizeLine := by rw [PySem.sizeLine_eq]; omega
theorem iabs (i : Int) : (if i < 0 then -i else i) = (i.natAbs : Int) := by
  split <;> omega

/-! ### forms moved by matrices, products of matrices -/
section
variable {P : Program} {w : World} {K : PySem.W.Frag} {mg : Str → Option Value} {base : Heap} {CM CR : Addr}
/-- small enough for any product here -/
def Sz (n : Nat) (x : Int) : Prop := x.natAbs < 2 ^ n
theorem Sz.mul {m n : Nat} {x y : Int} (h : Sz m x) (h' : Sz n y) : Sz (m + n) (x * y) := by
  unfold Sz at *
  rw [Int.natAbs_mul, Nat.pow_add]
  exact Nat.mul_lt_mul'' h h'
theorem Sz.add {m : Nat} {x y : Int} (h : Sz m x) (h' : Sz m y) : Sz (m + 1) (x + y) := by
  unfold Sz at *
  rw [Nat.pow_succ]
  omega
theorem Sz.sub {m : Nat} {x y : Int} (h : Sz m x) (h' : Sz m y) : Sz (m + 1) (x - y) := by
  unfold Sz at *
  rw [Nat.pow_succ]
  omega
theorem Sz.neg {m : Nat} {x : Int} (h : Sz m x) : Sz m (-x) := by
  unfold Sz at *
  omega
theorem Sz.le {m n : Nat} {x : Int} (h : Sz m x) (hmn : m ≤ n) : Sz n x := Nat.lt_of_lt_of_le h (Nat.pow_le_pow_right (by decide) hmn)
theorem Sz.ok {m n : Nat} {x y : Int} (h : Sz m x) (h' : Sz n y) (hm : m ≤ 450000) (hn : n ≤ 450000) : IntMulOk x y :=
  (wide_mul (a := 450000) (b := 450000) (h.le hm) (h'.le hn) (by decide) (by decide) (by decide)).ok
theorem sz_lit : Sz 3 2 ∧ Sz 3 4 := by unfold Sz; decide
end

section
variable {P : Program} {w : World} {K : PySem.W.Frag} {mg : Str → Option Value} {base : Heap} {CM CR aU a1 a2 : Addr}
/-! ### division by any number -/
def CDivA (i j : Int) : Prop := j ≠ 0 ∧ j.natAbs.log2 < 9000
theorem op_fdivA {X : Cx} : OpR X (binaryOp .FloorDiv) (rI CDivA fun i j => .int (i.fdiv j)) := opI fun _ _ _ _ _ _ _ hc q => floordiv_int hc.1 q (.inl (PyProof.noPylong_of_log2 hc.2))
theorem divA {n : Nat} {i j : Int} (h : j ≠ 0) (s : Sz (n + 1) j) (hn : n < 9000) : CDivA i j := ⟨h, Nat.lt_of_le_of_lt (log_lt (k := n) s) hn⟩
end

section
variable {P : Program} {w : World} {K : PySem.W.Frag} {mg : Str → Option Value} {base : Heap} {CM CR : Addr}
/-! ### the law's divisors, contents, discriminants -/
abbrev s__law_gcd : Stmt := top 14
theorem sc__law_gcd : FnScope ["a", "b"] ["a", "b"] (defScope s__law_gcd) := ⟨rfl, rfl, rfl, by decide +kernel, rfl, by decide +kernel, by decide +kernel⟩

def spComm : Sp := fun vs H Q _ => ∃ a b : Int, vs = [.int a, .int b] ∧ Q (.int ((Nat.gcd a.natAbs b.natAbs : Nat) : Int)) H
theorem cal_common (D : Dn K mg "_law_gcd" s__law_gcd ["a", "b"]) (B : Bl mg) : Cal P w K mg base "_law_gcd" 1 ["a", "b"] spComm := by
  refine D.cal sc__law_gcd (fun vs H Q E h => ?_) (fun f cdv A outer s H vs Q E hr h => ?_)
  · obtain ⟨a, b, rfl, _⟩ := h
    rfl
  · obtain ⟨a, b, rfl, q⟩ := h
    refine ⟨_, (pss_cons (ps_par (i := 0) (j := 1) rfl sc__law_gcd.nd rfl rfl (by decide) rfl rfl (pa_cons (pe_callB call_abs rfl B.abs (by decide +kernel) (pa_cons (pv 0) pa_nil)) (pa_cons (pe_callB call_abs rfl B.abs (by decide +kernel) (pa_cons (pv 1) pa_nil)) pa_nil)) (by rfl))
  (pss_cons (ps_while PassesOwn.never (pt_cmpR op_gt (pv 1) pe_int (nomark _)) (pss_one (ps_par (i := 0) (j := 1) rfl sc__law_gcd.nd rfl rfl (by decide) rfl rfl (pa_cons (pv 1) (pa_cons (pe_op op_mod (pe_callTy call_int1 rfl B.int boot_int (pa_cons (pv 0) pa_nil)) (pv 1)) pa_nil)) (by rfl))))
  (pss_one (ps_ret (pv 0))))), ?_⟩
    walk_at "rd"
    rw [iabs, iabs]
    refine while_w (fun σ H' => ∃ x y : Nat, σ = [some (.int x), some (.int y)] ∧ H' = H ∧ Nat.gcd x y = Nat.gcd a.natAbs b.natAbs) (fun σ _ => match σ with | [_, some (.int y)] => y.toNat | _ => 0) ⟨_, _, rfl, rfl, rfl⟩ ?_
    rintro σ H' ⟨x, y, rfl, rfl, hg⟩ N hN
    refine ⟨decide (0 < (y : Int)), fun Q' q' => ?_, fun hb => ?_, fun hb => ?_⟩
    · walk_at "rd"
      exact q'
    · have hy : 0 < y := by
        have := of_decide_eq_true hb
        omega
      walk_at "rd"
      refine ⟨by omega, hN _ _ ⟨y, x % y, by rw [Int.natCast_emod], rfl, ?_⟩ ?_⟩
      · rw [← hg, Nat.gcd_comm x y, Nat.gcd_rec y x, Nat.gcd_comm]
      · show ((x : Int) % (y : Int)).toNat < (y : Int).toNat
        have := Nat.mod_lt x hy
        rw [← Int.natCast_emod]
        omega
    · have hy : y = 0 := by
        have := of_decide_eq_false hb
        omega
      subst hy
      walk_at "rd"
      rw [Nat.gcd_zero_right] at hg
      rw [hg]
      exact q
end

section
variable {P : Program} {w : World} {K : PySem.W.Frag} {mg : Str → Option Value} {base : Heap} {CM CR aU a1 a2 : Addr}
/-! ### Euclid's steps, with signs -/
theorem fdiv_b {a b : Int} (hb : b ≠ 0) : (a - a.fdiv b * b).natAbs < b.natAbs ∧ 0 ≤ b * (a - a.fdiv b * b) ∧ (0 ≤ a * b → (a.fdiv b * b).natAbs + (a - a.fdiv b * b).natAbs = a.natAbs) := by
  have e := Int.emod_add_mul_ediv a b
  have r0 := Int.emod_nonneg a hb
  have r1 := Int.emod_lt a hb
  have key : ∃ r, a - a.fdiv b * b = r ∧ ((0 < b ∧ 0 ≤ r ∧ r < b) ∨ (b < 0 ∧ r ≤ 0 ∧ b < r)) := by
    refine ⟨_, rfl, ?_⟩
    rw [Int.fdiv_eq_ediv, Int.sub_mul, Int.mul_comm (a / b) b]
    by_cases h : 0 ≤ b ∨ b ∣ a
    · rw [if_pos h]
      rcases h with h | h
      · left
        omega
      · have := Int.emod_eq_zero_of_dvd h
        omega
    · rw [if_neg h]
      have nd : a % b ≠ 0 := fun z => h (.inr (Int.dvd_of_emod_eq_zero z))
      right
      omega
  obtain ⟨r, er, hr⟩ := key
  rw [er]
  have ek : a.fdiv b * b = a - r := by omega
  refine ⟨by omega, ?_, fun h => ?_⟩
  · rcases hr with ⟨x, y, _⟩ | ⟨x, y, _⟩
    · exact Int.mul_nonneg (by omega) y
    · exact Int.mul_nonneg_of_nonpos_of_nonpos (by omega) y
  · rw [ek]
    rcases hr with ⟨x, y, z⟩ | ⟨x, y, z⟩
    · have a0 : 0 ≤ a := by
        rcases Int.lt_or_le a 0 with c | c
        · have := Int.mul_neg_of_neg_of_pos c x
          omega
        · exact c
      have k0 : 0 ≤ a.fdiv b := by
        rw [Int.fdiv_eq_ediv_of_nonneg _ (by omega)]
        exact Int.ediv_nonneg a0 (by omega)
      have := Int.mul_nonneg k0 (show 0 ≤ b by omega)
      omega
    · have a0 : a ≤ 0 := by
        rcases Int.lt_or_le 0 a with c | c
        · have := Int.mul_neg_of_pos_of_neg c x
          omega
        · exact c
      have kb : a.fdiv b * b ≤ 0 := by
        rcases Int.lt_or_le (a.fdiv b) 0 with c | c
        · have c1 : 1 * (-b) ≤ (-(a.fdiv b)) * (-b) := Int.mul_le_mul_of_nonneg_right (by omega) (by omega)
          rw [Int.neg_mul_neg] at c1
          omega
        · have := Int.mul_nonneg c (show 0 ≤ -b by omega)
          rw [Int.mul_neg] at this
          omega
      omega
structure Eu (x y a b u v p q : Int) : Prop where
  ea : a = u * x + v * y
  eb : b = p * x + q * y
  de : u * q - v * p = 1 ∨ u * q - v * p = -1
  j : p.natAbs * a.natAbs + u.natAbs * b.natAbs ≤ y.natAbs
  sg : p = 0 ∨ (a ≠ 0 ∧ 0 ≤ a * b)
  y0 : y ≠ 0 ∨ b = 0
theorem Eu.p {x y a b u v p q : Int} (h : Eu x y a b u v p q) : p.natAbs ≤ y.natAbs := by
  have j := h.j
  rcases h.sg with z | ⟨z, _⟩
  · rw [z]; exact Nat.zero_le _
  · have : p.natAbs * 1 ≤ p.natAbs * a.natAbs := Nat.mul_le_mul_left _ (by omega)
    omega
theorem Eu.q {x y a b u v p q : Int} (h : Eu x y a b u v p q) (hb : b ≠ 0) : q.natAbs ≤ b.natAbs + p.natAbs * x.natAbs := by
  have hy : y ≠ 0 := h.y0.resolve_right hb
  have e : q * y = b - p * x := by have := h.eb; omega
  have m1 := Int.natAbs_mul q y
  have m2 := Int.natAbs_mul p x
  have : q.natAbs * 1 ≤ q.natAbs * y.natAbs := Nat.mul_le_mul_left _ (by omega)
  rw [e] at m1
  omega
theorem Eu.step {x y a b u v p q k : Int} (h : Eu x y a b u v p q) (hb : b ≠ 0) (hk : k = a.fdiv b) : Eu x y b (a - k * b) p q (u - k * p) (v - k * q) := by
  obtain ⟨f1, f2, f3⟩ := fdiv_b (a := a) hb
  rw [← hk] at f1 f2 f3
  obtain ⟨ea, eb, de, j, sg, y0⟩ := h
  refine ⟨eb, ?_, ?_, ?_, .inr ⟨hb, f2⟩, .inl (y0.resolve_right hb)⟩
  · have e1 : (u - k * p) * x = u * x - k * (p * x) := by rw [Int.sub_mul, Int.mul_assoc]
    have e2 : (v - k * q) * y = v * y - k * (q * y) := by rw [Int.sub_mul, Int.mul_assoc]
    have e3 : k * b = k * (p * x) + k * (q * y) := by rw [eb, Int.mul_add]
    omega
  · have e : p * (v - k * q) - q * (u - k * p) = -(u * q - v * p) := by
      have a1 : p * (v - k * q) = v * p - k * (p * q) := by grind
      have a2 : q * (u - k * p) = u * q - k * (p * q) := by grind
      omega
    rw [e]
    rcases de with z | z <;> rw [z]
    · right; rfl
    · left; rfl
  · have m1 : (u - k * p).natAbs ≤ u.natAbs + k.natAbs * p.natAbs := by
      have := Int.natAbs_mul k p
      omega
    have m2 : (u - k * p).natAbs * b.natAbs ≤ (u.natAbs + k.natAbs * p.natAbs) * b.natAbs := Nat.mul_le_mul_right _ m1
    rw [Nat.add_mul] at m2
    rcases sg with z | ⟨z, w⟩
    · subst z
      rw [Int.natAbs_zero, Nat.mul_zero, Nat.zero_mul] at m2
      rw [Int.natAbs_zero, Nat.zero_mul] at j ⊢
      omega
    · have f := f3 w
      rw [Int.natAbs_mul] at f
      have m3 : k.natAbs * p.natAbs * b.natAbs = p.natAbs * (k.natAbs * b.natAbs) := by
        rw [Nat.mul_comm k.natAbs, Nat.mul_assoc]
      have m4 : p.natAbs * a.natAbs = p.natAbs * (k.natAbs * b.natAbs) + p.natAbs * (a - k * b).natAbs := by rw [← f, Nat.mul_add]
      omega
theorem Eu.one {x y a u v p q s t : Int} (h : Eu x y a 0 u v p q) (hst : x * s - y * t = 1) : a = 1 ∨ a = -1 := by
  obtain ⟨ea, eb, de, _, _, _⟩ := h
  have hx : a ∣ x := by
    have e : q * a = (u * q - v * p) * x := by
      have : q * a = q * u * x + q * v * y - v * 0 := by rw [ea, Int.mul_zero]; grind
      rw [eb] at this
      rw [this]
      grind
    rcases de with z | z <;> rw [z] at e
    · exact ⟨q, by rw [Int.mul_comm]; omega⟩
    · exact ⟨-q, by rw [Int.mul_neg, Int.mul_comm]; omega⟩
  have hy : a ∣ y := by
    have e : p * a = -((u * q - v * p) * y) := by
      have : p * a = p * u * x + p * v * y - u * 0 := by rw [ea, Int.mul_zero]; grind
      rw [eb] at this
      rw [this]
      grind
    rcases de with z | z <;> rw [z] at e
    · exact ⟨-p, by rw [Int.mul_neg, Int.mul_comm]; omega⟩
    · exact ⟨p, by rw [Int.mul_comm]; omega⟩
  have h1 : a ∣ 1 := by
    rw [← hst]
    exact Int.dvd_sub (Int.dvd_mul_of_dvd_left hx) (Int.dvd_mul_of_dvd_left hy)
  have := Int.natAbs_dvd_natAbs.mpr h1
  have h2 : a.natAbs ∣ 1 := this
  have h3 := Nat.dvd_one.mp h2
  omega
end

/-! ### signs by counting (Gauss), and reciprocity (Eisenstein) -/
def sm (w : Nat → Nat) : Nat → Nat
  | 0 => 0
  | n + 1 => sm w n + w n
theorem sm_ext {w v : Nat → Nat} : ∀ {N : Nat}, (∀ i, i < N → w i = v i) → sm w N = sm v N
  | 0, _ => rfl
  | N + 1, h => by
    show sm w N + w N = sm v N + v N
    rw [sm_ext (fun i hi => h i (by omega)), h N (by omega)]
theorem sm_cut (w : Nat → Nat) (c : Nat) : ∀ N, c < N → sm w N = w c + sm (fun i => if i = c then 0 else w i) N := by
  have out : ∀ N, N ≤ c → sm (fun i => if i = c then 0 else w i) N = sm w N := fun N h => sm_ext fun i hi => if_neg (by omega)
  intro N
  induction N with
  | zero => intro h; omega
  | succ n ih =>
    intro h
    show sm w n + w n = w c + (sm (fun i => if i = c then 0 else w i) n + (if n = c then 0 else w n))
    by_cases e : n = c
    · subst e
      rw [if_pos rfl, out n (Nat.le_refl _)]
      omega
    · rw [if_neg e, ih (by omega)]
      omega
theorem sm_in {N : Nat} : ∀ (k : Nat) (w g : Nat → Nat), (∀ i, i < k → g i < N) → (∀ i j, i < j → j < k → g i ≠ g j) → sm (fun i => w (g i)) k ≤ sm w N := by
  intro k
  induction k with
  | zero => intro w g _ _; exact Nat.zero_le _
  | succ k ih =>
    intro w g hl hi
    show sm (fun i => w (g i)) k + w (g k) ≤ sm w N
    have h := ih (fun i => if i = g k then 0 else w i) g (fun i h => hl i (by omega)) (fun i j a b => hi i j a (by omega))
    have e : sm (fun i => if g i = g k then 0 else w (g i)) k = sm (fun i => w (g i)) k := sm_ext fun i hk => if_neg (hi i k hk (by omega))
    rw [sm_cut w (g k) N (hl k (by omega))]
    rw [e] at h
    omega
theorem sm_add (w v : Nat → Nat) : ∀ N, sm (fun i => w i + v i) N = sm w N + sm v N
  | 0 => rfl
  | N + 1 => by
    show sm _ N + (w N + v N) = sm w N + w N + (sm v N + v N)
    rw [sm_add w v N]
    omega
theorem sm_const (c : Nat) : ∀ N, sm (fun _ => c) N = N * c
  | 0 => by rw [Nat.zero_mul]; rfl
  | N + 1 => by
    show sm _ N + c = _
    rw [sm_const c N, Nat.succ_mul]
theorem sm_mem {w : Nat → Nat} : ∀ {N i : Nat}, i < N → w i ≤ sm w N
  | N + 1, i, h => by
    show w i ≤ sm w N + w N
    rcases Nat.lt_or_ge i N with z | z
    · exact Nat.le_trans (sm_mem z) (Nat.le_add_right _ _)
    · rw [show i = N by omega]
      exact Nat.le_add_left _ _
/-- a sum in another order -/
theorem sm_perm {N : Nat} (w g : Nat → Nat) (hl : ∀ i, i < N → g i < N) (hi : ∀ i j, i < j → j < N → g i ≠ g j) : sm (fun i => w (g i)) N = sm w N := by
  refine Nat.le_antisymm (sm_in N w g hl hi) ?_
  have h := sm_in N (fun i => sm w N - w i) g hl hi
  have a := sm_add (fun i => sm w N - w (g i)) (fun i => w (g i)) N
  have b := sm_add (fun i => sm w N - w i) w N
  have a' : sm (fun i => sm w N - w (g i) + w (g i)) N = N * sm w N := by
    rw [← sm_const]
    exact sm_ext fun i hi => Nat.sub_add_cancel (sm_mem (hl i hi))
  have b' : sm (fun i => sm w N - w i + w i) N = N * sm w N := by
    rw [← sm_const]
    exact sm_ext fun i hi => Nat.sub_add_cancel (sm_mem hi)
  omega
def hf (n : Nat) : Nat := (n - 1) / 2
def rs (a n j : Nat) : Nat := (a * (j + 1)) % n
def bg (a n j : Nat) : Nat := if rs a n j ≤ hf n then 0 else 1
def ab (a n j : Nat) : Nat := (if rs a n j ≤ hf n then rs a n j else n - rs a n j) - 1
def cn (a n : Nat) : Nat := sm (bg a n) (hf n)
theorem cop_dvd {a n x : Nat} (h : Nat.gcd a n = 1) (d : n ∣ a * x) : n ∣ x := Nat.Coprime.dvd_of_dvd_mul_left (show Nat.gcd n a = 1 by rw [Nat.gcd_comm]; exact h) d
theorem rs_at {a n j : Nat} (h : Nat.gcd a n = 1) (ho : n % 2 = 1) (hj : j < hf n) : 0 < rs a n j ∧ rs a n j < n := by
  unfold hf at hj
  refine ⟨?_, Nat.mod_lt _ (by omega)⟩
  rcases Nat.eq_zero_or_pos (rs a n j) with z | z
  · have d := cop_dvd h (Nat.dvd_of_mod_eq_zero z)
    have := Nat.le_of_dvd (by omega) d
    omega
  · exact z
theorem ab_lt {a n j : Nat} (h : Nat.gcd a n = 1) (ho : n % 2 = 1) (hj : j < hf n) : ab a n j < hf n := by
  have r := rs_at h ho hj
  unfold ab
  unfold hf at *
  split <;> omega
theorem ab_inj {a n i j : Nat} (h : Nat.gcd a n = 1) (ho : n % 2 = 1) (hij : i < j) (hj : j < hf n) : ab a n i ≠ ab a n j := by
  intro e
  have r := rs_at h ho hj
  have r' := rs_at h ho (show i < hf n by omega)
  have c : rs a n i = rs a n j ∨ rs a n i + rs a n j = n := by
    unfold ab at e
    unfold hf at *
    split at e <;> split at e <;> omega
  unfold hf at hj
  rcases c with c | c
  · have d : n ∣ a * (j - i) := by
      have e2 : a * (j + 1) = a * (i + 1) + a * (j - i) := by rw [← Nat.mul_add]; congr 1; omega
      have e3 : (a * (i + 1)) % n = (a * (j + 1)) % n := c
      rw [e2] at e3
      have := Nat.sub_mod_eq_zero_of_mod_eq e3.symm
      rw [Nat.add_sub_cancel_left] at this
      exact Nat.dvd_of_mod_eq_zero this
    have := Nat.le_of_dvd (by omega) (cop_dvd h d)
    omega
  · have d : n ∣ a * (i + j + 2) := by
      have e2 : a * (i + j + 2) = a * (i + 1) + a * (j + 1) := by rw [← Nat.mul_add]; congr 1; omega
      rw [e2]
      refine Nat.dvd_of_mod_eq_zero ?_
      rw [Nat.add_mod]
      show (rs a n i + rs a n j) % n = 0
      rw [c, Nat.mod_self]
    have := Nat.le_of_dvd (by omega) (cop_dvd h d)
    omega
theorem ab_perm {a n : Nat} (w : Nat → Nat) (h : Nat.gcd a n = 1) (ho : n % 2 = 1) : sm (fun j => w (ab a n j)) (hf n) = sm w (hf n) :=
  sm_perm w (ab a n) (fun _ hj => ab_lt h ho hj) (fun _ _ hij hj => ab_inj h ho hij hj)

/-- the count is even or odd: multiplicative in a -/
theorem cn_mul {a b n : Nat} (ha : Nat.gcd a n = 1) (hb : Nat.gcd b n = 1) (ho : n % 2 = 1) : cn (a * b) n % 2 = (cn a n + cn b n) % 2 := by
  have e : cn a n = sm (fun j => bg a n (ab b n j)) (hf n) := (ab_perm (bg a n) hb ho).symm
  have key : ∀ N, N ≤ hf n → sm (bg (a * b) n) N % 2 = (sm (fun j => bg a n (ab b n j)) N + sm (bg b n) N) % 2 := by
    intro N
    induction N with
    | zero => intro _; rfl
    | succ j ih =>
      intro hN
      have ih := ih (by omega)
      show (sm (bg (a * b) n) j + bg (a * b) n j) % 2 = (sm (fun j => bg a n (ab b n j)) j + bg a n (ab b n j) + (sm (bg b n) j + bg b n j)) % 2
      have r := rs_at hb ho (show j < hf n by omega)
      have l := ab_lt hb ho (show j < hf n by omega)
      have rr := rs_at ha ho l
      have e1 : rs (a * b) n j = (a * rs b n j) % n := by
        unfold rs
        rw [Nat.mul_assoc, Nat.mul_mod]
        rw [Nat.mul_mod a ((b * (j + 1)) % n), Nat.mod_mod]
      have one : bg (a * b) n j % 2 = (bg a n (ab b n j) + bg b n j) % 2 := by
        by_cases c : rs b n j ≤ hf n
        · have e2 : ab b n j + 1 = rs b n j := by unfold ab; rw [if_pos c]; omega
          have e3 : rs (a * b) n j = rs a n (ab b n j) := by
            rw [e1]
            show _ = (a * (ab b n j + 1)) % n
            rw [e2]
          have e4 : bg b n j = 0 := if_pos c
          have e5 : bg (a * b) n j = bg a n (ab b n j) := by unfold bg; rw [e3]
          rw [e4, e5, Nat.add_zero]
        · have e2 : ab b n j + 1 = n - rs b n j := by unfold ab; rw [if_neg c]; omega
          have e3 : rs (a * b) n j + rs a n (ab b n j) = n := by
            have hx : (rs (a * b) n j + rs a n (ab b n j)) % n = 0 := by
              rw [e1]
              show ((a * rs b n j) % n + (a * (ab b n j + 1)) % n) % n = 0
              rw [e2, ← Nat.add_mod, ← Nat.mul_add, Nat.add_sub_cancel' (by omega), Nat.mul_mod_left]
            have hl : rs (a * b) n j < n := Nat.mod_lt _ (by omega)
            have hd := Nat.dvd_of_mod_eq_zero hx
            obtain ⟨k, hk⟩ := hd
            have k1 : k = 1 := by
              rcases Nat.lt_or_ge k 2 with z | z
              · rcases Nat.eq_zero_or_pos k with y | y
                · rw [y, Nat.mul_zero] at hk; omega
                · omega
              · have : n * 2 ≤ n * k := Nat.mul_le_mul_left _ z
                omega
            rw [k1, Nat.mul_one] at hk
            exact hk
          have e4 : bg b n j = 1 := if_neg c
          rw [e4]
          unfold bg
          unfold hf at *
          split <;> split <;> omega
      omega
  show sm (bg (a * b) n) (hf n) % 2 = _
  rw [key _ (Nat.le_refl _), e]
  rfl

/-! ### reciprocity -/
def fl (a n : Nat) : Nat := sm (fun j => (a * (j + 1)) / n) (hf n)
theorem cn_fl {a n : Nat} (h : Nat.gcd a n = 1) (ho : n % 2 = 1) (ha : a % 2 = 1) : cn a n % 2 = fl a n % 2 := by
  have p := ab_perm (fun i => i + 1) h ho
  have key : ∀ N, N ≤ hf n → (sm (fun j => j + 1) N + sm (fun j => (a * (j + 1)) / n) N + sm (fun j => ab a n j + 1) N + sm (bg a n) N) % 2 = 0 := by
    intro N
    induction N with
    | zero => intro _; rfl
    | succ j ih =>
      intro hN
      have ih := ih (by omega)
      show (sm (fun j => j + 1) j + (j + 1) + (sm (fun j => (a * (j + 1)) / n) j + (a * (j + 1)) / n) + (sm (fun j => ab a n j + 1) j + (ab a n j + 1)) + (sm (bg a n) j + bg a n j)) % 2 = 0
      have r := rs_at h ho (show j < hf n by omega)
      have e := Nat.div_add_mod (a * (j + 1)) n
      have e1 : (a * (j + 1)) % 2 = (j + 1) % 2 := by rw [Nat.mul_mod, ha, Nat.one_mul, Nat.mod_mod]
      have e2 : (n * (a * (j + 1) / n)) % 2 = (a * (j + 1) / n) % 2 := by rw [Nat.mul_mod, ho, Nat.one_mul, Nat.mod_mod]
      have e3 : (a * (j + 1)) % n = rs a n j := rfl
      rw [e3] at e
      generalize a * (j + 1) / n = q at *
      have one : (rs a n j + (ab a n j + 1) + bg a n j) % 2 = 0 := by
        unfold ab bg
        unfold hf at *
        split <;> omega
      omega
  have k := key _ (Nat.le_refl _)
  have p' : sm (fun j => ab a n j + 1) (hf n) = sm (fun j => j + 1) (hf n) := p
  rw [p'] at k
  show sm (bg a n) (hf n) % 2 = sm (fun j => (a * (j + 1)) / n) (hf n) % 2
  omega
theorem sm_le_cnt {n X : Nat} (hn : 0 < n) : ∀ K, sm (fun i => if n * (i + 1) ≤ X then 1 else 0) K = min K (X / n)
  | 0 => by rw [Nat.zero_min]; rfl
  | K + 1 => by
    show sm _ K + (if n * (K + 1) ≤ X then 1 else 0) = _
    rw [sm_le_cnt hn K]
    have e : n * (K + 1) ≤ X ↔ K + 1 ≤ X / n := by
      rw [Nat.le_div_iff_mul_le hn, Nat.mul_comm]
    by_cases c : n * (K + 1) ≤ X
    · rw [if_pos c]
      have := e.mp c
      omega
    · rw [if_neg c]
      have : ¬ K + 1 ≤ X / n := fun z => c (e.mpr z)
      omega
theorem sm_swap (f : Nat → Nat → Nat) (K : Nat) : ∀ M, sm (fun j => sm (fun i => f i j) K) M = sm (fun i => sm (fun j => f i j) M) K
  | 0 => by
    show 0 = sm (fun _ => 0) K
    rw [sm_const, Nat.mul_zero]
  | M + 1 => by
    show sm (fun j => sm (fun i => f i j) K) M + sm (fun i => f i M) K = sm (fun i => sm (fun j => f i j) M + f i M) K
    rw [sm_swap f K M, sm_add]
theorem fl_le {a n j : Nat} (ha : a % 2 = 1) (hj : j < hf n) (ho : n % 2 = 1) : (a * (j + 1)) / n ≤ hf a := by
  unfold hf at *
  have hn : 0 < n := by omega
  rw [← Nat.lt_succ_iff, Nat.div_lt_iff_lt_mul hn]
  have h1 : a * (j + 1) ≤ a * ((n - 1) / 2) := Nat.mul_le_mul_left _ hj
  obtain ⟨k, hk⟩ : ∃ k, a = 2 * k + 1 := ⟨a / 2, by omega⟩
  obtain ⟨m, hm⟩ : ∃ m, n = 2 * m + 1 := ⟨n / 2, by omega⟩
  subst hk hm
  have e1 : (2 * m + 1 - 1) / 2 = m := by omega
  have e2 : (2 * k + 1 - 1) / 2 = k := by omega
  rw [e1] at h1
  rw [e2]
  have e3 : (2 * k + 1) * m = 2 * (k * m) + m := by grind
  have e4 : k.succ * (2 * m + 1) = 2 * (k * m) + k + 2 * m + 1 := by
    show (k + 1) * (2 * m + 1) = _
    grind
  omega
theorem fl_fl {a n : Nat} (h : Nat.gcd a n = 1) (ho : n % 2 = 1) (ha : a % 2 = 1) : fl a n + fl n a = hf n * hf a := by
  have hn : 0 < n := by omega
  have ha0 : 0 < a := by omega
  have e1 : fl a n = sm (fun j => sm (fun i => if n * (i + 1) ≤ a * (j + 1) then 1 else 0) (hf a)) (hf n) := by
    refine sm_ext fun j hj => ?_
    rw [sm_le_cnt hn]
    have := fl_le (n := n) ha hj ho
    omega
  have e2 : fl n a = sm (fun i => sm (fun j => if a * (j + 1) ≤ n * (i + 1) then 1 else 0) (hf n)) (hf a) := by
    refine sm_ext fun i hi => ?_
    rw [sm_le_cnt ha0]
    have := fl_le (n := a) ho hi ha
    omega
  rw [← sm_swap] at e2
  rw [e1, e2, ← sm_add]
  refine Eq.trans (sm_ext (v := fun _ => hf a) fun j hj => ?_) (sm_const _ _)
  rw [← sm_add]
  refine Eq.trans (sm_ext (v := fun _ => 1) fun i hi => ?_) (by rw [sm_const, Nat.mul_one])
  have ne : n * (i + 1) ≠ a * (j + 1) := fun e => by
    have d : n ∣ a * (j + 1) := ⟨i + 1, e.symm⟩
    have := Nat.le_of_dvd (by omega) (cop_dvd h d)
    unfold hf at hj
    omega
  split <;> split <;> omega
/-- the sign -/
def sg (g c : Nat) : Int := if g = 1 then (if c % 2 = 0 then 1 else -1) else 0
theorem sg_even {c : Nat} (h : c % 2 = 0) : sg 1 c = 1 := by
  unfold sg
  rw [if_pos rfl, if_pos h]
theorem sg_odd {c : Nat} (h : c % 2 = 1) : sg 1 c = -1 := by
  unfold sg
  rw [if_pos rfl, if_neg (by omega)]
theorem sg_no {g c : Nat} (h : g ≠ 1) : sg g c = 0 := by
  unfold sg
  rw [if_neg h]
theorem sg_add (c d : Nat) : sg 1 (c + d) = sg 1 c * sg 1 d := by
  rcases Nat.mod_two_eq_zero_or_one c with x | x <;> rcases Nat.mod_two_eq_zero_or_one d with y | y
  · rw [sg_even x, sg_even y, sg_even (by omega)]; rfl
  · rw [sg_even x, sg_odd y, sg_odd (by omega)]; rfl
  · rw [sg_odd x, sg_even y, sg_odd (by omega)]; rfl
  · rw [sg_odd x, sg_odd y, sg_even (by omega)]; rfl
theorem sg_par {c d : Nat} (h : c % 2 = d % 2) : sg 1 c = sg 1 d := by
  unfold sg
  rw [h]
def js (a n : Nat) : Int := sg (Nat.gcd a n) (cn a n)
theorem rs_mod (a n j : Nat) : rs (a % n) n j = rs a n j := by
  unfold rs
  rw [Nat.mod_mul_mod]
theorem js_mod (a n : Nat) : js (a % n) n = js a n := by
  have e : cn (a % n) n = cn a n := sm_ext fun j _ => by
    show bg (a % n) n j = bg a n j
    unfold bg
    rw [rs_mod]
  have g : Nat.gcd (a % n) n = Nat.gcd a n := by rw [← Nat.gcd_rec, Nat.gcd_comm]
  unfold js
  rw [e, g]
theorem js_mul {a b n : Nat} (ho : n % 2 = 1) : js (a * b) n = js a n * js b n := by
  unfold js
  by_cases ha : Nat.gcd a n = 1
  · by_cases hb : Nat.gcd b n = 1
    · have hab : Nat.gcd (a * b) n = 1 := Nat.Coprime.mul_left ha hb
      rw [ha, hb, hab, sg_par (cn_mul ha hb ho), sg_add]
    · have hab : Nat.gcd (a * b) n ≠ 1 := fun z => hb (Nat.Coprime.coprime_mul_left z)
      rw [sg_no hb, sg_no hab, Int.mul_zero]
  · have hab : Nat.gcd (a * b) n ≠ 1 := fun z => ha (Nat.Coprime.coprime_mul_right z)
    rw [sg_no ha, sg_no hab, Int.zero_mul]
/-- the sign of the exchange -/
def ex (a n : Nat) : Int := if a % 4 = 3 ∧ n % 4 = 3 then -1 else 1
theorem js_rec {a n : Nat} (ho : n % 2 = 1) (ha : a % 2 = 1) : js a n = ex a n * js n a := by
  unfold js
  rw [Nat.gcd_comm n a]
  by_cases h : Nat.gcd a n = 1
  · rw [h]
    have x := cn_fl h ho ha
    have y := cn_fl (by rw [Nat.gcd_comm]; exact h) ha ho
    have z := fl_fl h ho ha
    have p : (hf n * hf a) % 2 = (if a % 4 = 3 ∧ n % 4 = 3 then 1 else 0) := by
      rw [Nat.mul_mod]
      unfold hf
      have c1 : (n - 1) / 2 % 2 = if n % 4 = 3 then 1 else 0 := by split <;> omega
      have c2 : (a - 1) / 2 % 2 = if a % 4 = 3 then 1 else 0 := by split <;> omega
      rw [c1, c2]
      by_cases u : a % 4 = 3 <;> by_cases v : n % 4 = 3 <;> simp [u, v]
    have e : ex a n = sg 1 (hf n * hf a) := by
      unfold ex
      by_cases u : a % 4 = 3 ∧ n % 4 = 3
      · rw [if_pos u] at p ⊢
        rw [sg_odd p]
      · rw [if_neg u] at p ⊢
        rw [sg_even p]
    rw [e, ← sg_add]
    refine sg_par ?_
    rw [← z]
    omega
  · rw [sg_no h, sg_no h, Int.mul_zero]
theorem ex_mul {a m n : Nat} (hm : m % 2 = 1) (hn : n % 2 = 1) : ex a (m * n) = ex a m * ex a n := by
  have e : (m * n) % 4 = ((m % 4) * (n % 4)) % 4 := Nat.mul_mod ..
  have c1 : m % 4 = 1 ∨ m % 4 = 3 := by omega
  have c2 : n % 4 = 1 ∨ n % 4 = 3 := by omega
  unfold ex
  rw [e]
  rcases c1 with c1 | c1 <;> rcases c2 with c2 | c2 <;> rw [c1, c2] <;> by_cases u : a % 4 = 3 <;> simp [u]
theorem ex_sq (a n : Nat) : ex a n * ex a n = 1 := by
  unfold ex
  split <;> rfl
/-- multiplicative in n -/
theorem js_nmul {a m n : Nat} (hm : m % 2 = 1) (hn : n % 2 = 1) : js a (m * n) = js a m * js a n := by
  have odd : ∀ a : Nat, a % 2 = 1 → js a (m * n) = js a m * js a n := fun a ha => by
    have hmn : (m * n) % 2 = 1 := by rw [Nat.mul_mod, hm, hn]
    rw [js_rec hmn ha, js_rec hm ha, js_rec hn ha, ex_mul hm hn, js_mul ha]
    grind
  rcases Nat.mod_two_eq_zero_or_one a with e | e
  · have hmn : (m * n) % 2 = 1 := by rw [Nat.mul_mod, hm, hn]
    have h := odd (a + m * n) (by omega)
    rw [← js_mod, Nat.add_mod_right, js_mod] at h
    rw [← js_mod (a + m * n) m, ← js_mod (a + m * n) n, Nat.add_mul_mod_self_left, Nat.add_mul_mod_self_right, js_mod, js_mod] at h
    exact h
  · exact odd a e
/-- the sign of 2, and of n - 1 -/
theorem js_two {n : Nat} (ho : n % 2 = 1) : js 2 n = if n % 8 = 1 ∨ n % 8 = 7 then 1 else -1 := by
  have g : Nat.gcd 2 n = 1 := by
    rw [Nat.gcd_rec, ho]
    rfl
  have c : ∀ N, N ≤ hf n → sm (bg 2 n) N = N - min N (hf n / 2) := by
    intro N
    induction N with
    | zero => intro _; rfl
    | succ j ih =>
      intro hN
      show sm (bg 2 n) j + bg 2 n j = _
      rw [ih (by omega)]
      have r : rs 2 n j = 2 * (j + 1) := Nat.mod_eq_of_lt (by unfold hf at hN; omega)
      unfold bg
      rw [r]
      split <;> omega
  have e : cn 2 n = hf n - hf n / 2 := by
    show sm (bg 2 n) (hf n) = _
    rw [c _ (Nat.le_refl _)]
    omega
  unfold js
  rw [g, e]
  unfold hf
  have c8 : n % 8 = 1 ∨ n % 8 = 3 ∨ n % 8 = 5 ∨ n % 8 = 7 := by omega
  rcases c8 with z | z | z | z
  · rw [sg_even (by omega), if_pos (by omega)]
  · rw [sg_odd (by omega), if_neg (by omega)]
  · rw [sg_odd (by omega), if_neg (by omega)]
  · rw [sg_even (by omega), if_pos (by omega)]
theorem js_neg {n : Nat} (ho : n % 2 = 1) : js (n - 1) n = if n % 4 = 1 then 1 else -1 := by
  have g : Nat.gcd (n - 1) n = 1 := by
    have d := Nat.dvd_sub (Nat.gcd_dvd_right (n - 1) n) (Nat.gcd_dvd_left (n - 1) n)
    rw [show n - (n - 1) = 1 by omega] at d
    exact Nat.dvd_one.mp d
  have e : cn (n - 1) n = hf n := by
    have h1 : cn (n - 1) n = sm (fun _ => 1) (hf n) := sm_ext fun j hj => by
      have r : rs (n - 1) n j = n - (j + 1) := by
        unfold rs
        have e2 : (n - 1) * (j + 1) = (n - (j + 1)) + n * j := by
          obtain ⟨k, hk⟩ : ∃ k, n = k + (j + 1) := ⟨n - (j + 1), by unfold hf at hj; omega⟩
          subst hk
          have a1 : k + (j + 1) - 1 = k + j := by omega
          have a2 : k + (j + 1) - (j + 1) = k := by omega
          rw [a1, a2]
          grind
        rw [e2, Nat.add_mul_mod_self_left, Nat.mod_eq_of_lt (by omega)]
      unfold bg
      rw [r]
      unfold hf at *
      rw [if_neg (by omega)]
    rw [h1, sm_const, Nat.mul_one]
  unfold js
  rw [g, e]
  unfold hf
  split
  · rw [sg_even (by omega)]
  · rw [sg_odd (by omega)]

/-! ### the last one among the binary digits -/
theorem and_pred_odd (q : Nat) : (2 * q + 1) &&& (2 * q) = 2 * q := by
  have h1 : ((2 * q + 1) &&& (2 * q)) / 2 = q := by
    rw [Nat.and_div_two]
    rw [show (2 * q + 1) / 2 = q by omega, show 2 * q / 2 = q by omega, Nat.and_self]
  have h2 : ((2 * q + 1) &&& (2 * q)) % 2 = 0 := by
    have := Nat.and_mod_two_pow (a := 2 * q + 1) (b := 2 * q) (n := 1)
    rw [show (2 : Nat) ^ 1 = 2 from rfl, show (2 * q + 1) % 2 = 1 by omega, show 2 * q % 2 = 0 by omega] at this
    rw [this]
    rfl
  omega
theorem and_pred_even {b : Nat} (h : 0 < b) : (2 * b) &&& (2 * b - 1) = 2 * (b &&& (b - 1)) := by
  have h1 : ((2 * b) &&& (2 * b - 1)) / 2 = b &&& (b - 1) := by
    rw [Nat.and_div_two]
    rw [show 2 * b / 2 = b by omega, show (2 * b - 1) / 2 = b - 1 by omega]
  have h2 : ((2 * b) &&& (2 * b - 1)) % 2 = 0 := by
    have := Nat.and_mod_two_pow (a := 2 * b) (b := 2 * b - 1) (n := 1)
    rw [show (2 : Nat) ^ 1 = 2 from rfl, show 2 * b % 2 = 0 by omega, show (2 * b - 1) % 2 = 1 by omega] at this
    rw [this]
    rfl
  omega
theorem two_part : ∀ (a : Nat), 0 < a → ∃ v q, a = 2 ^ v * (2 * q + 1) ∧ a &&& (a - 1) = a - 2 ^ v := by
  intro a
  induction a using Nat.strongRecOn with
  | _ a ih =>
    intro h
    rcases Nat.mod_two_eq_zero_or_one a with e | e
    · obtain ⟨b, rfl⟩ : ∃ b, a = 2 * b := ⟨a / 2, by omega⟩
      obtain ⟨v, q, h1, h2⟩ := ih b (by omega) (by omega)
      refine ⟨v + 1, q, ?_, ?_⟩
      · rw [h1, Nat.pow_succ]; grind
      · rw [and_pred_even (by omega), h2, Nat.pow_succ]; omega
    · obtain ⟨q, rfl⟩ : ∃ q, a = 2 * q + 1 := ⟨a / 2, by omega⟩
      refine ⟨0, q, by omega, ?_⟩
      rw [show 2 * q + 1 - 1 = 2 * q by omega, and_pred_odd]
theorem bit_low {a : Nat} (h : 0 < a) : ∃ v q, a = 2 ^ v * (2 * q + 1) ∧ Builtin.bitAnd (a : Int) (-(a : Int)) = ((2 ^ v : Nat) : Int) := by
  obtain ⟨v, q, h1, h2⟩ := two_part a h
  refine ⟨v, q, h1, ?_⟩
  unfold Builtin.bitAnd
  rw [decide_eq_true (show (0 : Int) ≤ (a : Int) by omega), decide_eq_false (show ¬ (0 : Int) ≤ -(a : Int) by omega)]
  show (a : Int) - (((a : Int).toNat &&& (Builtin.bitNot (-(a : Int))).toNat : Nat) : Int) = _
  have e : (Builtin.bitNot (-(a : Int))).toNat = a - 1 := by unfold Builtin.bitNot; omega
  rw [e, Int.toNat_natCast, h2]
  have : 2 ^ v ≤ a := by rw [h1]; exact Nat.le_mul_of_pos_right _ (by omega)
  omega
theorem or_even (x y : Int) : (Builtin.bitOr x y) % 2 = 0 ↔ x % 2 = 0 ∧ y % 2 = 0 := by
  have key : ∀ x y : Int, (Builtin.bitAnd x y) % 2 = 1 ↔ x % 2 = 1 ∧ y % 2 = 1 := by
    intro x y
    have am : ∀ m n : Nat, (m &&& n) % 2 = 1 ↔ m % 2 = 1 ∧ n % 2 = 1 := fun m n => by
      have := Nat.and_mod_two_pow (a := m) (b := n) (n := 1)
      rw [show (2 : Nat) ^ 1 = 2 from rfl] at this
      rw [this]
      rcases Nat.mod_two_eq_zero_or_one m with a | a <;> rcases Nat.mod_two_eq_zero_or_one n with b | b <;> rw [a, b] <;> decide
    have om : ∀ m n : Nat, (m ||| n) % 2 = 0 ↔ m % 2 = 0 ∧ n % 2 = 0 := fun m n => by
      have := Nat.or_mod_two_pow (a := m) (b := n) (n := 1)
      rw [show (2 : Nat) ^ 1 = 2 from rfl] at this
      rw [this]
      rcases Nat.mod_two_eq_zero_or_one m with a | a <;> rcases Nat.mod_two_eq_zero_or_one n with b | b <;> rw [a, b] <;> decide
    unfold Builtin.bitAnd
    by_cases hx : 0 ≤ x <;> by_cases hy : 0 ≤ y
    · rw [decide_eq_true hx, decide_eq_true hy]
      have := am x.toNat y.toNat
      show ((x.toNat &&& y.toNat : Nat) : Int) % 2 = 1 ↔ _
      omega
    · rw [decide_eq_true hx, decide_eq_false hy]
      have := am x.toNat (Builtin.bitNot y).toNat
      show (x - ((x.toNat &&& (Builtin.bitNot y).toNat : Nat) : Int)) % 2 = 1 ↔ _
      have e : ((Builtin.bitNot y).toNat : Int) = -y - 1 := by unfold Builtin.bitNot; omega
      omega
    · rw [decide_eq_false hx, decide_eq_true hy]
      have := am y.toNat (Builtin.bitNot x).toNat
      show (y - ((y.toNat &&& (Builtin.bitNot x).toNat : Nat) : Int)) % 2 = 1 ↔ _
      have e : ((Builtin.bitNot x).toNat : Int) = -x - 1 := by unfold Builtin.bitNot; omega
      omega
    · rw [decide_eq_false hx, decide_eq_false hy]
      have := om (Builtin.bitNot x).toNat (Builtin.bitNot y).toNat
      show (Builtin.bitNot (((Builtin.bitNot x).toNat ||| (Builtin.bitNot y).toNat : Nat) : Int)) % 2 = 1 ↔ _
      have e : ((Builtin.bitNot x).toNat : Int) = -x - 1 := by unfold Builtin.bitNot; omega
      have e2 : ((Builtin.bitNot y).toNat : Int) = -y - 1 := by unfold Builtin.bitNot; omega
      unfold Builtin.bitNot at *
      omega
  unfold Builtin.bitOr
  have k := key (Builtin.bitNot x) (Builtin.bitNot y)
  unfold Builtin.bitNot at *
  omega
theorem and34 (a n : Nat) : (Builtin.bitAnd (Builtin.bitAnd (a : Int) (n : Int)) 3 = 3) ↔ (a % 4 = 3 ∧ n % 4 = 3) := by
  rw [PyProof.Rows.bitAnd_m2]
  have e : Builtin.bitAnd (a : Int) (n : Int) = ((a &&& n : Nat) : Int) := by
    rw [PyProof.Rows.bitAnd_pp (by omega) (by omega), Int.toNat_natCast, Int.toNat_natCast]
  rw [e]
  have := Nat.and_mod_two_pow (a := a) (b := n) (n := 2)
  rw [show (2 : Nat) ^ 2 = 4 from rfl] at this
  have e2 : ((a &&& n : Nat) : Int) % 4 = 3 ↔ (a % 4 &&& n % 4) = 3 := by omega
  rw [e2]
  have h1 : a % 4 < 4 := Nat.mod_lt _ (by decide)
  have h2 : n % 4 < 4 := Nat.mod_lt _ (by decide)
  generalize a % 4 = x at *
  generalize n % 4 = y at *
  have c1 : x = 0 ∨ x = 1 ∨ x = 2 ∨ x = 3 := by omega
  have c2 : y = 0 ∨ y = 1 ∨ y = 2 ∨ y = 3 := by omega
  rcases c1 with rfl | rfl | rfl | rfl <;> rcases c2 with rfl | rfl | rfl | rfl <;> decide

section
variable {P : Program} {w : World} {K : PySem.W.Frag} {mg : Str → Option Value} {base : Heap} {CM CR aU a1 a2 : Addr}
theorem natS {n : Nat} {x y : Int} (h : x.natAbs ≤ y.natAbs) (s : Sz n y) : Sz n x := Nat.lt_of_le_of_lt h s
theorem nzI {n : Int} : (n != 0) = !decide (n = 0) := by
  by_cases h : n = 0
  · subst h; rfl
  · rw [decide_eq_false h]
    simp [h]
theorem Eu.gcd {x y a u v p q : Int} (h : Eu x y a 0 u v p q) : a.natAbs = Nat.gcd x.natAbs y.natAbs := by
  obtain ⟨ea, eb, de, _, _, _⟩ := h
  have hx : a ∣ x := by
    have e : q * a = (u * q - v * p) * x := by
      have : q * a = q * u * x + q * v * y - v * 0 := by rw [ea, Int.mul_zero]; grind
      rw [eb] at this
      rw [this]
      grind
    rcases de with z | z <;> rw [z] at e
    · exact ⟨q, by rw [Int.mul_comm]; omega⟩
    · exact ⟨-q, by rw [Int.mul_neg, Int.mul_comm]; omega⟩
  have hy : a ∣ y := by
    have e : p * a = -((u * q - v * p) * y) := by
      have : p * a = p * u * x + p * v * y - u * 0 := by rw [ea, Int.mul_zero]; grind
      rw [eb] at this
      rw [this]
      grind
    rcases de with z | z <;> rw [z] at e
    · exact ⟨-p, by rw [Int.mul_neg, Int.mul_comm]; omega⟩
    · exact ⟨p, by rw [Int.mul_comm]; omega⟩
  refine Nat.dvd_antisymm (Nat.dvd_gcd (Int.natAbs_dvd_natAbs.mpr hx) (Int.natAbs_dvd_natAbs.mpr hy)) ?_
  have hg : ((Int.gcd x y : Nat) : Int) ∣ a := by
    rw [ea]
    exact Int.dvd_add (Int.dvd_trans (Int.gcd_dvd_left ..) (Int.dvd_mul_left ..)) (Int.dvd_trans (Int.gcd_dvd_right ..) (Int.dvd_mul_left ..))
  have := Int.natAbs_dvd_natAbs.mpr hg
  exact this
theorem rd_par3 {i j l : Nat} {t : TA} {D : Ends} {σ : L2.St} {H : Hp} : tPar3 i j l t D σ H = t σ H fun vs H1 => ∃ u v w, vs = [u, v, w] ∧ D.nx (((σ.set i (some u)).set j (some v)).set l (some w)) H1 := rfl
abbrev s_combination : Stmt := top 1
theorem sc_combination : FnScope ["a", "b", "g", "u", "v", "h", "s", "t", "q"] ["a", "b"] (defScope s_combination) := ⟨rfl, rfl, rfl, by decide +kernel, rfl, by decide +kernel, by decide +kernel⟩

def spComb : Sp := fun vs H Q _ => ∃ x y : Int, vs = [.int x, .int y] ∧ 0 ≤ x ∧ 0 ≤ y ∧ Sz 600 x ∧ Sz 600 y ∧
  ∀ (r : Addr) (u v : Int) (H' : Hp), Same H H' → H r = none → H' r = some (.tup [.int ((Nat.gcd x.natAbs y.natAbs : Nat) : Int), .int u, .int v]) → u * x + v * y = ((Nat.gcd x.natAbs y.natAbs : Nat) : Int) → Sz 610 u → Q (.ref r) H'
theorem cal_comb (D : Dn K mg "combination" s_combination ["a", "b"]) (B : Bl mg) : Cal P w K mg base "combination" 1 ["a", "b"] spComb := by
  refine D.cal sc_combination (fun vs H Q E h => ?_) (fun f cdv A outer s H vs Q E hr h => ?_)
  · obtain ⟨x, y, rfl, _⟩ := h
    rfl
  · obtain ⟨x, y, rfl, hx0, hy0, zx, zy, q⟩ := h
    refine ⟨_, (pss_cons (ps_par3 (i := 2) (j := 3) (l := 4) rfl sc_combination.nd rfl rfl rfl (by decide) (by decide) (by decide) rfl rfl rfl (pa_cons (pv 0) (pa_cons pe_int (pa_cons pe_int pa_nil))) (by rfl))
  (pss_cons (ps_par3 (i := 5) (j := 6) (l := 7) rfl sc_combination.nd rfl rfl rfl (by decide) (by decide) (by decide) rfl rfl rfl (pa_cons (pv 1) (pa_cons pe_int (pa_cons pe_int pa_nil))) (by rfl))
  (pss_cons (ps_while PassesOwn.never (pt_truth (pv 5) (by intro _; rfl)) (pss_cons (ps_set (i := 8) sc_combination.nd rfl (Or.inl rfl) (pe_op op_fdivA (pv 2) (pv 5)))
  (pss_cons (ps_par (i := 2) (j := 5) rfl sc_combination.nd rfl rfl (by decide) rfl rfl (pa_cons (pv 5) (pa_cons (pe_op op_sub (pv 2) (pe_op op_mulI (pv 8) (pv 5))) pa_nil)) (by rfl))
  (pss_cons (ps_par (i := 3) (j := 6) rfl sc_combination.nd rfl rfl (by decide) rfl rfl (pa_cons (pv 6) (pa_cons (pe_op op_sub (pv 3) (pe_op op_mulI (pv 8) (pv 6))) pa_nil)) (by rfl))
  (pss_one (ps_par (i := 4) (j := 7) rfl sc_combination.nd rfl rfl (by decide) rfl rfl (pa_cons (pv 7) (pa_cons (pe_op op_sub (pv 4) (pe_op op_mulI (pv 8) (pv 7))) pa_nil)) (by rfl)))))))
  (pss_cons (ps_if (pt_cmpR op_lt (pv 2) pe_int (nomark _)) (pss_one (ps_ret (pe_tup (pa_cons (pe_un un_neg (pv 2)) (pa_cons (pe_un un_neg (pv 3)) (pa_cons (pe_un un_neg (pv 4)) pa_nil)))))) pss_nil)
  (pss_one (ps_ret (pe_tup (pa_cons (pv 2) (pa_cons (pv 3) (pa_cons (pv 4) pa_nil)))))))))), ?_⟩
    rw [CB.rd_seq, rd_par3]
    walk_at "rs"
    rw [CB.rd_seq, rd_par3]
    walk_at "rs"
    rw [CB.rd_seq]
    refine while_w (fun σ H' => ∃ a b u v p q sk, σ = [some (.int x), some (.int y), some (.int a), some (.int u), some (.int v), some (.int b), some (.int p), some (.int q), sk] ∧ Same H H' ∧ Eu x y a b u v p q ∧ Sz 600 a ∧ Sz 600 b ∧ Sz 601 u ∧ Sz 1300 v ∧ 0 ≤ a ∧ 0 ≤ b)
      (fun σ _ => match σ with | [_, _, _, _, _, some (.int b), _, _, _] => b.natAbs | _ => 0) ⟨x, y, 1, 0, 0, 1, _, rfl, Same.refl _, ⟨by omega, by omega, .inl rfl, ?_, .inl rfl, ?_⟩, zx, zy, ?_, ?_, hx0, hy0⟩ ?_
    · rw [show (0 : Int).natAbs = 0 from rfl, show (1 : Int).natAbs = 1 from rfl]
      omega
    · omega
    · exact Nat.one_lt_two_pow (by decide)
    · exact Nat.two_pow_pos _
    rintro σ H' ⟨a, b, u, v, p, q', sk, rfl, sm, hE, za, zb, zu, zv, ha0, hb0⟩ N hN
    refine ⟨!decide (b = 0), fun Q' q' => ?_, fun hb => ?_, fun hb => ?_⟩
    · walk_at "rd"
      refine ⟨_, rfl, ?_⟩
      rw [nzI]
      exact q'
    · have hb : b ≠ 0 := by simpa using hb
      have zp : Sz 600 p := natS hE.p zy
      have zq : Sz 1210 q' := by
        have h := hE.q hb
        have hh : p.natAbs * x.natAbs < 2 ^ (600 + 600) := by
          have := zp.mul zx
          unfold Sz at this
          rw [Int.natAbs_mul] at this
          exact this
        have z : Sz 600 b := zb
        have e : (2 : Nat) ^ 1210 = 2 ^ (600 + 600) * 2 ^ 10 := (Nat.pow_add 2 (600 + 600) 10)
        have e2 : (2 : Nat) ^ 600 ≤ 2 ^ (600 + 600) := Nat.pow_le_pow_right (by decide) (by decide)
        unfold Sz at z ⊢
        rw [e]
        generalize (2 : Nat) ^ (600 + 600) = X at *
        generalize (2 : Nat) ^ 600 = Y at *
        omega
      obtain ⟨f1, f2, f3⟩ := fdiv_b (a := a) hb
      have st := hE.step hb rfl
      have zr : Sz 600 (a - a.fdiv b * b) := natS (Nat.le_of_lt f1) zb
      have r0 : 0 ≤ a - a.fdiv b * b := by
        rcases Int.lt_or_le (a - a.fdiv b * b) 0 with c | c
        · have := Int.mul_neg_of_pos_of_neg (show 0 < b by omega) c
          omega
        · exact c
      have zk : Sz 602 (a.fdiv b) := by
        have z : Sz 601 (a - (a - a.fdiv b * b)) := za.sub zr
        rw [show a - (a - a.fdiv b * b) = a.fdiv b * b by omega] at z
        unfold Sz at z ⊢
        rw [Int.natAbs_mul] at z
        have : (a.fdiv b).natAbs * 1 ≤ (a.fdiv b).natAbs * b.natAbs := Nat.mul_le_mul_left _ (by omega)
        have e : (2 : Nat) ^ 602 = 2 ^ 601 * 2 := by rw [Nat.pow_succ]
        rw [e]
        generalize (2 : Nat) ^ 601 = X at *
        omega
      rw [CB.rd_seq]
      walk_at "rs"
      refine ⟨divA (n := 599) hb zb (by decide), ?_⟩
      generalize a.fdiv b = k at *
      rw [CB.rd_seq]
      walk_at "rs"
      refine ⟨zk.ok zb (by decide) (by decide), ?_⟩
      rw [CB.rd_seq]
      walk_at "rs"
      refine ⟨zk.ok zp (by decide) (by decide), ?_⟩
      try walk_at "rs"
      refine ⟨zk.ok zq (by decide) (by decide), ?_⟩
      exact hN _ _ ⟨b, a - k * b, p, q', u - k * p, v - k * q', _, rfl, sm, st, zb, zr, zp.le (by decide), zq.le (by decide), hb0, r0⟩ f1
    · have hb : b = 0 := by simpa using hb
      subst hb
      have ea := hE.ea
      have eg := hE.gcd
      have ega : a = ((Nat.gcd x.natAbs y.natAbs : Nat) : Int) := by rw [← eg]; omega
      show tSeq _ _ _ _ _
      rw [CB.rd_seq]
      walk_at "rs"
      rw [CB.rd_seq]
      walk_at "rs"
      rw [if_neg (show ¬ a < 0 by omega)]
      try walk_at "rs"
      refine ⟨by decide, fun r nr => q r u v _ (sm.trans (same_upd nr)) (sm.free nr) ?_ ?_ (zu.le (by decide))⟩
      · rw [← ega]; exact upd_same
      · rw [← ega]; omega
abbrev s_inverse : Stmt := top 2
theorem sc_inverse : FnScope ["a", "m", "g", "u", "h", "s", "q", "left"] ["a", "m"] (defScope s_inverse) := ⟨rfl, rfl, rfl, by decide +kernel, rfl, by decide +kernel, by decide +kernel⟩

def spInv : Sp := fun vs H Q _ => ∃ a m : Int, vs = [.int a, .int m] ∧ 0 < m ∧ Sz 600 m ∧ (Nat.gcd (a % m).natAbs m.natAbs ≠ 1 → ∀ H', Same H H' → Q .non H') ∧
  (Nat.gcd (a % m).natAbs m.natAbs = 1 → ∀ (r : Int) (H' : Hp), Same H H' → 0 ≤ r → r < m → (a * r - 1) % m = 0 → Q (.int r) H')
theorem inv_step {g h m q u s : Int} (h0 : 0 < h) (q0 : 0 ≤ q) (r0 : 0 ≤ g - q * h) (j : s.natAbs * g + u.natAbs * h ≤ m) : (u - q * s).natAbs * h + s.natAbs * (g - q * h) ≤ m := by
  have h1 : ((u - q * s).natAbs : Int) ≤ u.natAbs + q * s.natAbs := by
    have a := Int.natAbs_sub_le u (q * s)
    rw [Int.natAbs_mul] at a
    have b : ((q.natAbs * s.natAbs : Nat) : Int) = q * s.natAbs := by rw [Int.natCast_mul]; congr 1; omega
    omega
  have h2 := Int.mul_le_mul_of_nonneg_right h1 (Int.le_of_lt h0)
  have h3 : ((u.natAbs : Int) + q * s.natAbs) * h + s.natAbs * (g - q * h) = s.natAbs * g + u.natAbs * h := by grind
  omega
theorem cal_inv (D : Dn K mg "inverse" s_inverse ["a", "m"]) (B : Bl mg) : Cal P w K mg base "inverse" 2 ["a", "m"] spInv := by
  refine D.cal sc_inverse (fun vs H Q E h => ?_) (fun f cdv A outer s H vs Q E hr h => ?_)
  · obtain ⟨a, m, rfl, _⟩ := h
    rfl
  · obtain ⟨a, m, rfl, m0, zm, qn, qr⟩ := h
    refine ⟨_, (pss_cons (ps_par (i := 2) (j := 3) rfl sc_inverse.nd rfl rfl (by decide) rfl rfl (pa_cons (pv 1) (pa_cons pe_int pa_nil)) (by rfl))
  (pss_cons (ps_par (i := 4) (j := 5) rfl sc_inverse.nd rfl rfl (by decide) rfl rfl (pa_cons (pe_op op_mod (pv 0) (pv 1)) (pa_cons pe_int pa_nil)) (by rfl))
  (pss_cons (ps_while PassesOwn.never (pt_truth (pv 4) (by intro _; rfl)) (pss_cons (ps_asg (pe_callB cr_dm rfl B.divmod (by decide +kernel) (pa_cons (pv 2) (pa_cons (pv 4) pa_nil))) (pg_tup (n := 2) rfl (pgs_cons (pg_name (i := 6) sc_inverse.nd rfl (Or.inl rfl)) (pgs_cons (pg_name (i := 7) sc_inverse.nd rfl (Or.inl rfl)) pgs_nil))))
  (pss_cons (ps_par (i := 2) (j := 4) rfl sc_inverse.nd rfl rfl (by decide) rfl rfl (pa_cons (pv 4) (pa_cons (pv 7) pa_nil)) (by rfl))
  (pss_one (ps_par (i := 3) (j := 5) rfl sc_inverse.nd rfl rfl (by decide) rfl rfl (pa_cons (pv 5) (pa_cons (pe_op op_sub (pv 3) (pe_op op_mulI (pv 6) (pv 5))) pa_nil)) (by rfl))))))
  (pss_one (ps_ret (pe_ifExp (pt_cmpR op_eq (pv 2) pe_int (nomark _)) (pe_op op_mod (pv 3) (pv 1)) pe_non)))))), ?_⟩
    have r0 := Int.emod_nonneg a (show m ≠ 0 by omega)
    have r1 := Int.emod_lt_of_pos a m0
    rw [CB.rd_seq]
    walk_at "rs"
    rw [CB.rd_seq]
    walk_at "rs"
    refine ⟨m0, ?_⟩
    rw [CB.rd_seq]
    refine while_w (fun σ H' => ∃ g u h s x y, σ = [some (.int a), some (.int m), some (.int g), some (.int u), some (.int h), some (.int s), x, y] ∧ Same H H' ∧ 0 < g ∧ g ≤ m ∧ 0 ≤ h ∧ h ≤ m ∧ (s.natAbs : Int) * g + u.natAbs * h ≤ m ∧ (u * a - g) % m = 0 ∧ (s * a - h) % m = 0 ∧ Nat.gcd g.natAbs h.natAbs = Nat.gcd (a % m).natAbs m.natAbs)
      (fun σ _ => match σ with | [_, _, _, _, some (.int h), _, _, _] => h.natAbs | _ => 0) ⟨m, 0, a % m, 1, _, _, rfl, Same.refl _, m0, Int.le_refl _, r0, by omega, by rw [show (1 : Int).natAbs = 1 from rfl, show (0 : Int).natAbs = 0 from rfl]; omega, ?_, ?_, Nat.gcd_comm _ _⟩ ?_
    · rw [Int.zero_mul, Int.zero_sub]
      exact Int.emod_eq_zero_of_dvd (Int.dvd_neg.mpr (Int.dvd_refl m))
    · rw [Int.one_mul]
      have := Int.emod_add_mul_ediv a m
      exact Int.emod_eq_zero_of_dvd ⟨a / m, by omega⟩
    rintro σ H' ⟨g, u, h, s, x, y, rfl, sm, g0, gm, h0, hm, hj, hu, hs, hg⟩ N hN
    refine ⟨!decide (h = 0), fun Q' q' => ?_, fun hb => ?_, fun hb => ?_⟩
    · walk_at "rd"
      refine ⟨_, rfl, ?_⟩
      rw [nzI]
      exact q'
    · have hb : h ≠ 0 := by simpa using hb
      have hp : 0 < h := by omega
      have zg : Sz 600 g := natS (by omega) zm
      have hgs : (s.natAbs : Int) ≤ m := by
        have a1 : (s.natAbs : Int) * 1 ≤ (s.natAbs : Int) * g := Int.mul_le_mul_of_nonneg_left (by omega) (by omega)
        have a2 : 0 ≤ (u.natAbs : Int) * h := Int.mul_nonneg (by omega) (by omega)
        omega
      have zs : Sz 600 s := natS (by omega) zm
      have d0 : 0 ≤ g / h := Int.ediv_nonneg (by omega) (by omega)
      have d1 : g / h ≤ g := Int.ediv_le_self _ (by omega)
      have zq : Sz 600 (g / h) := natS (y := g) (by omega) zg
      have e1 := Int.emod_add_mul_ediv g h
      have er : g % h = g - g / h * h := by rw [Int.mul_comm]; omega
      have b0 := Int.emod_nonneg g hb
      have b1 := Int.emod_lt_of_pos g hp
      rw [CB.rd_seq]
      walk_at "rs"
      have dv : ∀ z : Int, z % m = 0 → ∃ k, z = m * k := fun z hz => ⟨z / m, by have := Int.emod_add_mul_ediv z m; omega⟩
      refine ⟨⟨hp, PyProof.noPylong_of_log2 (by have := log_lt (k := 599) (natS (y := m) (by omega) zm : Sz 600 h); omega)⟩, fun p np => ⟨_, SqT.of upd_same, rfl, _, _, rfl, _, _, rfl, rfl, ?_⟩⟩
      walk_at "nx"
      try walk_at "rs"
      refine ⟨zq.ok zs (by decide) (by decide), hN _ _ ⟨h, s, g % h, u - g / h * s, _, _, rfl, sm.trans (same_upd np), hp, hm, b0, by omega, ?_, hs, ?_, ?_⟩ ?_⟩
      · rw [er]
        exact inv_step hp d0 (by omega) hj
      · obtain ⟨k1, e2⟩ := dv _ hu
        obtain ⟨k2, e3⟩ := dv _ hs
        refine Int.emod_eq_zero_of_dvd ⟨k1 - g / h * k2, ?_⟩
        rw [er]
        grind
      · rw [← hg, Nat.gcd_comm g.natAbs h.natAbs, Nat.gcd_rec h.natAbs g.natAbs, Nat.gcd_comm]
        congr 1
        have e : ((g % h).natAbs : Int) = ((g.natAbs % h.natAbs : Nat) : Int) := by
          rw [Int.natCast_emod, Int.natAbs_of_nonneg b0, Int.natAbs_of_nonneg (by omega), Int.natAbs_of_nonneg (by omega)]
        omega
      · show (g % h).natAbs < h.natAbs
        omega
    · have hb : h = 0 := by simpa using hb
      subst hb
      rw [Int.natAbs_zero, Nat.gcd_zero_right] at hg
      walk_at "rd"
      by_cases c : g = 1
      · rw [if_pos c]
        subst c
        refine ⟨m0, qr (by omega) _ _ sm (Int.emod_nonneg u (by omega)) (Int.emod_lt_of_pos u m0) ?_⟩
        have e5 : (a * (u % m) - 1) % m = (a * u - 1) % m := by
          have e3 := Int.emod_add_mul_ediv u m
          have e4 : a * u - 1 = (a * (u % m) - 1) + m * (a * (u / m)) := by
            have : a * u = a * (u % m + m * (u / m)) := by rw [e3]
            grind
          rw [e4, Int.add_mul_emod_self_left]
        rw [e5, Int.mul_comm a u]
        exact hu
      · rw [if_neg c]
        exact qn (by omega) _ sm
theorem pow_stepI {b : Int} {e : Nat} : b ^ e = (if e % 2 = 1 then b else 1) * (b * b) ^ (e / 2) := by
  have h : (b * b) ^ (e / 2) = b ^ (2 * (e / 2)) := by
    rw [Int.pow_mul]
    congr 1
    rw [Int.pow_succ, Int.pow_succ, Int.pow_zero, Int.one_mul]
  rw [h]
  split
  · rw [Int.mul_comm, ← Int.pow_succ]
    congr 1; omega
  · rw [Int.one_mul]
    congr 1; omega
theorem mod_mul_pow {r b m : Int} (e : Nat) : ((r % m) * (b % m) ^ e) % m = (r * b ^ e) % m := by
  rw [Int.mul_emod, Int.emod_emod]
  have : ∀ e : Nat, ((b % m) ^ e) % m = (b ^ e) % m := fun e => by
    induction e with
    | zero => rw [Int.pow_zero, Int.pow_zero]
    | succ n ih =>
      rw [Int.pow_succ, Int.pow_succ, Int.mul_emod, ih, Int.emod_emod, ← Int.mul_emod]
  rw [this, ← Int.mul_emod]
abbrev s_power : Stmt := top 3
theorem sc_power : FnScope ["a", "e", "m", "result"] ["a", "e", "m"] (defScope s_power) := ⟨rfl, rfl, rfl, by decide +kernel, rfl, by decide +kernel, by decide +kernel⟩

def spPow : Sp := fun vs H Q _ => ∃ (a m : Int) (e : Nat), vs = [.int a, .int e, .int m] ∧ 0 < m ∧ Sz 600 m ∧ Q (.int ((a ^ e) % m)) H
theorem cal_pow (D : Dn K mg "power" s_power ["a", "e", "m"]) (B : Bl mg) : Cal P w K mg base "power" 1 ["a", "e", "m"] spPow := by
  refine D.cal sc_power (fun vs H Q E h => ?_) (fun f cdv A outer s H vs Q E hr h => ?_)
  · obtain ⟨a, m, e, rfl, _⟩ := h
    rfl
  · obtain ⟨a, m, e, rfl, m0, zm, q⟩ := h
    refine ⟨_, (pss_cons (ps_set (i := 3) sc_power.nd rfl (Or.inl rfl) (pe_op op_mod pe_int (pv 2)))
  (pss_cons (ps_aug (i := 0) sc_power.nd rfl (Or.inl rfl) (pv 2) iop_mod)
  (pss_cons (ps_while PassesOwn.never (pt_truth (pv 1) (by intro _; rfl)) (pss_cons (ps_if (pt_truth (pe_op op_and (pv 1) pe_int) (by intro _; rfl)) (pss_one (ps_set (i := 3) sc_power.nd rfl (Or.inl rfl) (pe_op op_mod (pe_op op_mulI (pv 3) (pv 0)) (pv 2)))) pss_nil)
  (pss_cons (ps_aug (i := 1) sc_power.nd rfl (Or.inl rfl) pe_int iop_shr)
  (pss_one (ps_if (pt_truth (pv 1) (by intro _; rfl)) (pss_one (ps_set (i := 0) sc_power.nd rfl (Or.inl rfl) (pe_op op_mod (pe_op op_mulI (pv 0) (pv 0)) (pv 2)))) pss_nil)))))
  (pss_one (ps_ret (pv 3)))))), ?_⟩
    rw [CB.rd_seq]
    walk_at "rs"
    refine ⟨m0, ?_⟩
    rw [CB.rd_seq]
    walk_at "rs"
    refine ⟨m0, ?_⟩
    rw [CB.rd_seq]
    have md : ∀ z : Int, 0 ≤ z % m ∧ z % m < m := fun z => ⟨Int.emod_nonneg z (by omega), Int.emod_lt_of_pos z m0⟩
    refine while_w (fun σ H' => ∃ (b r : Int) (e' : Nat), σ = [some (.int b), some (.int e'), some (.int m), some (.int r)] ∧ H' = H ∧ (0 ≤ b ∧ b < m) ∧ (0 ≤ r ∧ r < m) ∧ (r * b ^ e') % m = (a ^ e) % m)
      (fun σ _ => match σ with | [_, some (.int e'), _, _] => e'.toNat | _ => 0) ⟨a % m, 1 % m, e, rfl, rfl, md _, md _, by rw [mod_mul_pow, Int.one_mul]⟩ ?_
    rintro σ H' ⟨b, r, e', rfl, rfl, hb0, hr0, inv⟩ N hN
    refine ⟨decide (e' ≠ 0), fun Q' q' => ?_, fun hb => ?_, fun hb => ?_⟩
    · walk_at "rd"
      refine ⟨_, rfl, ?_⟩
      have e1 : ((e' : Int) != 0) = decide (e' ≠ 0) := by
        rw [nzI]
        by_cases c : e' = 0
        · subst c; rfl
        · rw [decide_eq_true c, decide_eq_false (by omega)]; rfl
      rw [e1]
      exact q'
    · have he : e' ≠ 0 := of_decide_eq_true hb
      have zb : Sz 600 b := natS (by omega) zm
      have zr : Sz 600 r := natS (by omega) zm
      have fin : ∀ r1 : Int, (0 ≤ r1 ∧ r1 < m) → (r1 * (b * b) ^ (e' / 2)) % m = (a ^ e) % m → ∃ k, TruV K (V.int ((e' : Int) / 2 ^ Int.toNat 1)) H' k ∧ if k = true then IntMulOk b b ∧ 0 < m ∧ N [some (V.int ((b * b) % m)), some (V.int ((e' : Int) / 2 ^ Int.toNat 1)), some (V.int m), some (V.int r1)] H' else N [some (V.int b), some (V.int ((e' : Int) / 2 ^ Int.toNat 1)), some (V.int m), some (V.int r1)] H' := fun r1 h1 h2 => by
        have e2 : (e' : Int) / 2 ^ Int.toNat 1 = ((e' / 2 : Nat) : Int) := by
          show (e' : Int) / 2 = _
          omega
        rw [e2]
        refine ⟨_, rfl, ?_⟩
        rw [nzI]
        by_cases c : e' / 2 = 0
        · rw [decide_eq_true (by omega), if_neg (by decide)]
          refine hN _ _ ⟨b, r1, e' / 2, rfl, rfl, hb0, h1, ?_⟩ (by show ((e' / 2 : Nat) : Int).toNat < (e' : Int).toNat; omega)
          rw [c, Int.pow_zero] at h2 ⊢
          exact h2
        · rw [decide_eq_false (by omega), if_pos (show (!false) = true from rfl)]
          refine ⟨zb.ok zb (by decide) (by decide), m0, hN _ _ ⟨(b * b) % m, r1, e' / 2, rfl, rfl, md _, h1, ?_⟩ (by show ((e' / 2 : Nat) : Int).toNat < (e' : Int).toNat; omega)⟩
          have hh := mod_mul_pow (r := r1) (b := b * b) (m := m) (e' / 2)
          rw [Int.emod_eq_of_lt h1.1 h1.2] at hh
          rw [hh]
          exact h2
      rw [pow_stepI] at inv
      walk_at "rd"
      refine ⟨_, rfl, ?_⟩
      rw [PyProof.Rows.bitAnd_m1, nzI]
      by_cases c : e' % 2 = 0
      · rw [decide_eq_true (by omega), if_neg (by decide)]
        rw [if_neg (by omega), Int.one_mul] at inv
        exact ⟨by decide, fin r hr0 inv⟩
      · rw [decide_eq_false (by omega), if_pos (show (!false) = true from rfl)]
        rw [if_pos (by omega), ← Int.mul_assoc] at inv
        refine ⟨zr.ok zb (by decide) (by decide), m0, by decide, fin _ (md _) ?_⟩
        rw [← inv, Int.mul_emod, Int.emod_emod, ← Int.mul_emod]
    · have he : e' = 0 := by
        have := of_decide_eq_false hb
        omega
      subst he
      rw [Int.pow_zero, Int.mul_one, Int.emod_eq_of_lt hr0.1 hr0.2] at inv
      walk_at "rd"
      rw [inv]
      exact q
end

section
variable {P : Program} {w : World} {K : PySem.W.Frag} {mg : Str → Option Value} {base : Heap} {CM CR aU a1 a2 : Addr}
theorem rd_bits {to : TE} {σ : L2.St} {H : Hp} {Q : VK} : tBits to σ H Q = to σ H fun x H1 => ∃ i, x = .int i ∧ Q (.int (Builtin.Int.intBits i : Nat)) H1 := rfl
theorem bits_pow (v : Nat) : Builtin.Int.intBits ((2 ^ v : Nat) : Int) = v + 1 := by
  unfold Builtin.Int.intBits
  have h : ((2 ^ v : Nat) : Int) ≠ 0 := by
    have := Nat.two_pow_pos v
    omega
  have e : (((2 ^ v : Nat) : Int) == 0) = false := by simpa using h
  rw [e, if_neg (by decide), Int.natAbs_natCast, Nat.log2_two_pow]
theorem js_pow {a n v : Nat} (ho : n % 2 = 1) : js (2 ^ v * a) n = (if v % 2 = 1 ∧ (n % 8 = 3 ∨ n % 8 = 5) then -1 else 1) * js a n := by
  have two : ∀ v, js (2 ^ v) n = (if v % 2 = 1 ∧ (n % 8 = 3 ∨ n % 8 = 5) then -1 else 1) := by
    intro v
    induction v with
    | zero =>
      rw [if_neg (by omega)]
      have h := js_mul (a := 1) (b := 1) ho
      have g : Nat.gcd 1 n = 1 := Nat.gcd_one_left n
      have h2 : js 1 n = 1 ∨ js 1 n = -1 := by
        unfold js
        rw [g]
        rcases Nat.mod_two_eq_zero_or_one (cn 1 n) with x | x
        · left; exact sg_even x
        · right; exact sg_odd x
      rw [Nat.mul_one] at h
      show js 1 n = 1
      rcases h2 with z | z
      · exact z
      · rw [z] at h
        exact absurd h (by decide)
    | succ v ih =>
      rw [Nat.pow_succ, js_mul ho, ih, js_two ho]
      by_cases c1 : v % 2 = 1 <;> by_cases c2 : n % 8 = 3 ∨ n % 8 = 5
      · rw [if_pos ⟨c1, c2⟩, if_neg (by omega), if_neg (by omega)]; rfl
      · rw [if_neg (by omega), if_pos (by omega), if_neg (by omega)]; rfl
      · rw [if_neg (by omega), if_neg (by omega), if_pos (by omega)]; rfl
      · rw [if_neg (by omega), if_pos (by omega), if_neg (by omega)]; rfl
  rw [js_mul ho, two]
theorem js_zero {n : Nat} (ho : n % 2 = 1) : js 0 n = if n = 1 then 1 else 0 := by
  unfold js
  rw [Nat.gcd_zero_left]
  by_cases c : n = 1
  · subst c
    rfl
  · rw [if_neg c, sg_no c]
theorem in35 (n : Int) : inV (.int n) [V.int 3, V.int 5] = decide (n = 3 ∨ n = 5) := by
  show (eqV (.int 3) (.int n) || (eqV (.int 5) (.int n) || false)) = _
  have e : ∀ k : Int, eqV (.int k) (.int n) = decide (k = n) := fun k => rfl
  rw [e, e]
  by_cases c1 : n = 3
  · subst c1; rfl
  · by_cases c2 : n = 5
    · subst c2; rfl
    · rw [decide_eq_false (by omega), decide_eq_false (by omega), decide_eq_false (by omega)]; rfl
abbrev s__odd_sign : Stmt := top 5
theorem sc__odd_sign : FnScope ["a", "n", "sign", "twos"] ["a", "n"] (defScope s__odd_sign) := ⟨rfl, rfl, rfl, by decide +kernel, rfl, by decide +kernel, by decide +kernel⟩

def spOdd : Sp := fun vs H Q _ => ∃ a n : Nat, vs = [.int a, .int n] ∧ n % 2 = 1 ∧ ∀ H', Same H H' → Q (.int (js a n)) H'
theorem cal_odd (D : Dn K mg "_odd_sign" s__odd_sign ["a", "n"]) (B : Bl mg) : Cal P w K mg base "_odd_sign" 1 ["a", "n"] spOdd := by
  refine D.cal sc__odd_sign (fun vs H Q E h => ?_) (fun f cdv A outer s H vs Q E hr h => ?_)
  · obtain ⟨a, n, rfl, _⟩ := h
    rfl
  · obtain ⟨a, n, rfl, ho, q⟩ := h
    refine ⟨_, (pss_cons (ps_set (i := 2) sc__odd_sign.nd rfl (Or.inl rfl) pe_int)
  (pss_cons (ps_while PassesOwn.never (pt_truth (pv 0) (by intro _; rfl)) (pss_cons (ps_set (i := 3) sc__odd_sign.nd rfl (Or.inl rfl) (pe_op op_sub (pe_bits (pe_op op_and (pv 0) (pe_un un_neg (pv 0)))) pe_int))
  (pss_cons (ps_aug (i := 0) sc__odd_sign.nd rfl (Or.inl rfl) (pv 3) iop_shr)
  (pss_cons (ps_if (PW.pt (pw_and (pt_truth (pe_op op_and (pv 3) pe_int) (by intro _; rfl)) (pw_and1 (pt_cmpR op_in_seq (pe_op op_and (pv 1) pe_int) (pe_tup (pa_cons pe_int (pa_cons pe_int pa_nil))) (by rfl))))) (pss_one (ps_set (i := 2) sc__odd_sign.nd rfl (Or.inl rfl) (pe_un un_neg (pv 2)))) pss_nil)
  (pss_cons (ps_if (pt_cmpR op_eq (pe_op op_and (pe_op op_and (pv 0) (pv 1)) pe_int) pe_int (nomark _)) (pss_one (ps_set (i := 2) sc__odd_sign.nd rfl (Or.inl rfl) (pe_un un_neg (pv 2)))) pss_nil)
  (pss_one (ps_par (i := 0) (j := 1) rfl sc__odd_sign.nd rfl rfl (by decide) rfl rfl (pa_cons (pe_op op_mod (pv 1) (pv 0)) (pa_cons (pv 0) pa_nil)) (by rfl))))))))
  (pss_one (ps_ret (pe_ifExp (pt_cmpR op_eq (pv 1) pe_int (nomark _)) (pv 2) pe_int))))), ?_⟩
    rw [CB.rd_seq]
    walk_at "rs"
    rw [CB.rd_seq]
    refine while_w (fun σ H' => ∃ (a' n' : Nat) (s : Int) (s3 : Option V), σ = [some (.int a'), some (.int n'), some (.int s), s3] ∧ Same H H' ∧ n' % 2 = 1 ∧ s * js a' n' = js a n)
      (fun σ _ => match σ with | [some (.int a'), _, _, _] => a'.toNat | _ => 0) ⟨a, n, 1, _, rfl, Same.refl _, ho, by rw [Int.one_mul]⟩ ?_
    rintro σ H' ⟨a', n', s, s3, rfl, sm, ho', inv⟩ N hN
    refine ⟨decide (a' ≠ 0), fun Q' q' => ?_, fun hb => ?_, fun hb => ?_⟩
    · walk_at "rd"
      refine ⟨_, rfl, ?_⟩
      have e1 : ((a' : Int) != 0) = decide (a' ≠ 0) := by
        rw [nzI]
        by_cases c : a' = 0
        · subst c; rfl
        · rw [decide_eq_true c, decide_eq_false (by omega)]; rfl
      rw [e1]
      exact q'
    · have ha : a' ≠ 0 := of_decide_eq_true hb
      obtain ⟨v, qq, e1, e2⟩ := bit_low (a := a') (by omega)
      rw [CB.rd_seq]
      walk_at "rs"
      rw [rd_bits]
      walk_at "rs"
      rw [e2, bits_pow, show (((v + 1 : Nat) : Int) - 1) = ((v : Nat) : Int) by omega]
      rw [CB.rd_seq]
      walk_at "rs"
      have e3 : (a' : Int) / 2 ^ (Int.toNat ((v : Nat) : Int)) = ((2 * qq + 1 : Nat) : Int) := by
        rw [Int.toNat_natCast, e1, Int.natCast_mul]
        have : (((2 ^ v : Nat)) : Int) = 2 ^ v := by simp
        rw [this, Int.mul_ediv_cancel_left _ (by rw [← this]; have := Nat.two_pow_pos v; omega)]
      rw [e3]
      refine ⟨by omega, ?_⟩
      refine seq_cut (fun σ H2 => σ = [some (.int ((2 * qq + 1 : Nat) : Int)), some (.int n'), some (.int ((if v % 2 = 1 ∧ (n' % 8 = 3 ∨ n' % 8 = 5) then -1 else 1) * s)), some (.int (v : Nat))] ∧ Same H' H2) (fun R hR => ?_) ?_
      · walk_at "rs"
        refine ⟨_, rfl, ?_⟩
        rw [PyProof.Rows.bitAnd_m1, nzI]
        by_cases c : v % 2 = 1
        · rw [decide_eq_false (by omega), if_pos (show (!false) = true from rfl)]
          refine ⟨by decide, fun p np => ⟨p, _, rfl, .inr (SqT.of upd_same), rfl, rfl, inV _ [V.int 3, V.int 5], rfl, ?_⟩⟩
          rw [PyProof.Rows.bitAnd_m3, in35]
          by_cases c2 : n' % 8 = 3 ∨ n' % 8 = 5
          · rw [decide_eq_true (by omega), if_pos rfl]
            refine hR _ _ ⟨?_, same_upd np⟩
            rw [if_pos ⟨c, c2⟩, Int.neg_one_mul]
          · rw [decide_eq_false (by omega), if_neg (by decide)]
            refine hR _ _ ⟨?_, same_upd np⟩
            rw [if_neg (fun z => c2 z.2), Int.one_mul]
        · rw [decide_eq_true (by omega), if_neg (by decide)]
          refine hR _ _ ⟨?_, Same.refl _⟩
          rw [if_neg (fun z => c z.1), Int.one_mul]
      rintro σ H2 ⟨rfl, s2⟩
      rw [e1, js_pow ho', ← Int.mul_assoc, Int.mul_comm s] at inv
      generalize (if v % 2 = 1 ∧ (n' % 8 = 3 ∨ n' % 8 = 5) then (-1 : Int) else 1) * s = s' at *
      have hl : 2 * qq + 1 ≤ a' := by
        rw [e1]
        exact Nat.le_mul_of_pos_left _ (Nat.two_pow_pos v)
      refine seq_cut (fun σ H3 => σ = [some (.int ((2 * qq + 1 : Nat) : Int)), some (.int n'), some (.int (ex (2 * qq + 1) n' * s')), some (.int (v : Nat))] ∧ Same H2 H3) (fun R hR => ?_) ?_
      · walk_at "rs"
        have k := and34 (2 * qq + 1) n'
        refine ite2 (fun c => hR _ _ ⟨?_, Same.refl _⟩) (fun c => hR _ _ ⟨?_, Same.refl _⟩)
        · unfold ex
          rw [if_pos (k.mp c), Int.neg_one_mul]
        · unfold ex
          rw [if_neg (fun z => c (k.mpr z)), Int.one_mul]
      rintro σ H3 ⟨rfl, s3'⟩
      walk_at "rs"
      refine ⟨by omega, ?_⟩
      refine hN _ _ ⟨n' % (2 * qq + 1), 2 * qq + 1, ex (2 * qq + 1) n' * s', some (.int (v : Nat)), ?_, (sm.trans s2).trans s3', by omega, ?_⟩ ?_
      · rw [Int.natCast_emod]
      · rw [js_mod, ← inv, js_rec (a := 2 * qq + 1) ho' (by omega)]
        grind
      · show ((n' : Int) % ((2 * qq + 1 : Nat) : Int)).toNat < ((a' : Nat) : Int).toNat
        have := Nat.mod_lt n' (show 0 < 2 * qq + 1 by omega)
        rw [← Int.natCast_emod, Int.toNat_natCast, Int.toNat_natCast]
        omega
    · have ha : a' = 0 := by
        have := of_decide_eq_false hb
        omega
      subst ha
      rw [js_zero ho'] at inv
      walk_at "rd"
      by_cases c : n' = 1
      · rw [if_pos c, Int.mul_one] at inv
        rw [if_pos (by omega), inv]
        exact q _ sm
      · rw [if_neg c, Int.mul_zero] at inv
        rw [if_neg (by omega), inv]
        exact q _ sm
end

section
variable {P : Program} {w : World} {K : PySem.W.Frag} {mg : Str → Option Value} {base : Heap} {CM CR aU a1 a2 : Addr}
/-- the sign for an odd n, of any integer -/
def jI (a : Int) (n : Nat) : Int := js (a % (n : Int)).toNat n
def twoS (a : Int) (v : Nat) : Int := if v % 2 = 1 ∧ (a % 8 = 3 ∨ a % 8 = 5) then -1 else 1
def negS (a n : Int) : Int := if n < 0 ∧ a < 0 then -1 else 1
abbrev s_kronecker : Stmt := top 4
theorem sc_kronecker : FnScope ["a", "n", "sign", "twos"] ["a", "n"] (defScope s_kronecker) := ⟨rfl, rfl, rfl, by decide +kernel, rfl, by decide +kernel, by decide +kernel⟩

def spKro : Sp := fun vs H Q _ => ∃ a n : Int, vs = [.int a, .int n] ∧ ((n = 0 ∧ Q (.int (if (a.natAbs : Int) = 1 then 1 else 0)) H) ∨
  ∃ v q : Nat, n.natAbs = 2 ^ v * (2 * q + 1) ∧ ((a % 2 = 0 ∧ n % 2 = 0 ∧ Q (.int 0) H) ∨ (¬ (a % 2 = 0 ∧ n % 2 = 0) ∧ ∀ H', Same H H' → Q (.int (twoS a v * negS a n * jI a (2 * q + 1))) H')))
theorem cal_kro (D : Dn K mg "kronecker" s_kronecker ["a", "n"]) (B : Bl mg) (c__odd_sign : Cal P w K mg base "_odd_sign" 1 ["a", "n"] spOdd) : Cal P w K mg base "kronecker" 2 ["a", "n"] spKro := by
  refine D.cal sc_kronecker (fun vs H Q E h => ?_) (fun f cdv A outer s H vs Q E hr h => ?_)
  · obtain ⟨a, n, rfl, _⟩ := h
    rfl
  · obtain ⟨a, n, rfl, h⟩ := h
    refine ⟨_, (pss_cons (ps_if (pt_cmpR op_eq (pv 1) pe_int (nomark _)) (pss_one (ps_ret (pe_ifExp (pt_cmpR op_eq (pe_callB call_abs rfl B.abs (by decide +kernel) (pa_cons (pv 0) pa_nil)) pe_int (nomark _)) pe_int pe_int))) pss_nil)
  (pss_cons (ps_if (pt_not (pt_truth (pe_op op_and (pe_op op_or (pv 0) (pv 1)) pe_int) (by intro _; rfl))) (pss_one (ps_ret pe_int)) pss_nil)
  (pss_cons (ps_set (i := 2) sc_kronecker.nd rfl (Or.inl rfl) (pe_ifExp (PW.pt (pw_and (pt_cmpR op_lt (pv 1) pe_int (nomark _)) (pw_and1 (pt_cmpR op_lt (pv 0) pe_int (nomark _))))) (pe_un un_neg pe_int) pe_int))
  (pss_cons (ps_set (i := 1) sc_kronecker.nd rfl (Or.inl rfl) (pe_callB call_abs rfl B.abs (by decide +kernel) (pa_cons (pv 1) pa_nil)))
  (pss_cons (ps_set (i := 3) sc_kronecker.nd rfl (Or.inl rfl) (pe_op op_sub (pe_bits (pe_op op_and (pv 1) (pe_un un_neg (pv 1)))) pe_int))
  (pss_cons (ps_if (PW.pt (pw_and (pt_truth (pe_op op_and (pv 3) pe_int) (by intro _; rfl)) (pw_and1 (pt_cmpR op_in_seq (pe_op op_and (pv 0) pe_int) (pe_tup (pa_cons pe_int (pa_cons pe_int pa_nil))) (by rfl))))) (pss_one (ps_set (i := 2) sc_kronecker.nd rfl (Or.inl rfl) (pe_un un_neg (pv 2)))) pss_nil)
  (pss_cons (ps_aug (i := 1) sc_kronecker.nd rfl (Or.inl rfl) (pv 3) iop_shr)
  (pss_one (ps_ret (pe_op op_mulI (pv 2) (pe_cal c__odd_sign (hr.mono (by decide)) rfl (pa_cons (pe_op op_mod (pv 0) (pv 1)) (pa_cons (pv 1) pa_nil))))))))))))), ?_⟩
    rw [CB.rd_seq]
    walk_at "rs"
    refine ite2 (fun c => ?_) (fun c => ?_)
    · rcases h with ⟨_, q⟩ | ⟨v, qq, e, _⟩
      · rw [iabs]
        by_cases c2 : (a.natAbs : Int) = 1
        · rw [if_pos c2] at q ⊢
          exact q
        · rw [if_neg c2] at q ⊢
          exact q
      · subst c
        have := Nat.two_pow_pos v
        have : 0 < 2 ^ v * (2 * qq + 1) := Nat.mul_pos this (by omega)
        omega
    · obtain ⟨v, qq, e, h⟩ := h.resolve_left (fun z => c z.1)
      rw [CB.rd_seq]
      walk_at "rs"
      refine ⟨_, rfl, ?_⟩
      rw [PyProof.Rows.bitAnd_m1, nzI]
      have oe := or_even a n
      rcases h with ⟨h1, h2, q⟩ | ⟨h1, q⟩
      · rw [decide_eq_true (oe.mpr ⟨h1, h2⟩), if_pos (by decide)]
        exact q
      rw [decide_eq_false (fun z => h1 (oe.mp z)), if_neg (by decide)]
      show tSeq _ _ _ _ _
      refine seq_cut (fun σ H2 => σ = [some (.int a), some (.int n), some (.int (negS a n)), none] ∧ H2 = H) (fun R hR => ?_) ?_
      · walk_at "rs"
        unfold negS at hR
        refine ite2 (fun c1 => ite2 (fun c2 => hR _ _ ⟨by rw [if_pos ⟨c1, c2⟩], rfl⟩) (fun c2 => hR _ _ ⟨by rw [if_neg (fun z => c2 z.2)], rfl⟩)) (fun c1 => hR _ _ ⟨by rw [if_neg (fun z => c1 z.1)], rfl⟩)
      rintro σ H2 ⟨rfl, rfl⟩
      rw [CB.rd_seq]
      walk_at "rs"
      rw [iabs]
      rw [CB.rd_seq]
      walk_at "rs"
      rw [rd_bits]
      walk_at "rs"
      obtain ⟨v', qq', e1, e2⟩ := bit_low (a := n.natAbs) (by omega)
      have uq : v' = v ∧ qq' = qq := by
        rw [e] at e1
        have step : ∀ (v v' q q' : Nat), 2 ^ v * (2 * q + 1) = 2 ^ v' * (2 * q' + 1) → v' = v ∧ q' = q := by
          intro v
          induction v with
          | zero =>
            intro v' q q' h
            cases v' with
            | zero => omega
            | succ v' =>
              rw [Nat.pow_succ, Nat.pow_zero, Nat.one_mul] at h
              have : 2 ^ v' * 2 * (2 * q' + 1) = 2 * (2 ^ v' * (2 * q' + 1)) := by grind
              omega
          | succ v ih =>
            intro v' q q' h
            cases v' with
            | zero =>
              rw [Nat.pow_succ, Nat.pow_zero, Nat.one_mul] at h
              have : 2 ^ v * 2 * (2 * q + 1) = 2 * (2 ^ v * (2 * q + 1)) := by grind
              omega
            | succ v' =>
              rw [Nat.pow_succ, Nat.pow_succ] at h
              have a1 : 2 ^ v * 2 * (2 * q + 1) = 2 * (2 ^ v * (2 * q + 1)) := by grind
              have a2 : 2 ^ v' * 2 * (2 * q' + 1) = 2 * (2 ^ v' * (2 * q' + 1)) := by grind
              obtain ⟨x, y⟩ := ih v' q q' (by omega)
              omega
        exact step _ _ _ _ e1
      obtain ⟨rfl, rfl⟩ := uq
      rw [e2, bits_pow, show (((v' + 1 : Nat) : Int) - 1) = ((v' : Nat) : Int) by omega]
      refine seq_cut (fun σ H3 => σ = [some (.int a), some (.int (n.natAbs : Int)), some (.int (twoS a v' * negS a n)), some (.int (v' : Nat))] ∧ Same H2 H3) (fun R hR => ?_) ?_
      · walk_at "rs"
        unfold twoS at hR
        refine ⟨_, rfl, ?_⟩
        rw [PyProof.Rows.bitAnd_m1, nzI]
        by_cases c : v' % 2 = 1
        · rw [decide_eq_false (by omega), if_pos (show (!false) = true from rfl)]
          refine ⟨by decide, fun p np => ⟨p, _, rfl, .inr (SqT.of upd_same), rfl, rfl, inV _ [V.int 3, V.int 5], rfl, ?_⟩⟩
          rw [PyProof.Rows.bitAnd_m3, in35]
          by_cases c2 : a % 8 = 3 ∨ a % 8 = 5
          · rw [decide_eq_true c2, if_pos rfl]
            refine hR _ _ ⟨?_, same_upd np⟩
            rw [if_pos ⟨c, c2⟩, Int.neg_one_mul]
          · rw [decide_eq_false c2, if_neg (by decide)]
            refine hR _ _ ⟨?_, same_upd np⟩
            rw [if_neg (fun z => c2 z.2), Int.one_mul]
        · rw [decide_eq_true (by omega), if_neg (by decide)]
          refine hR _ _ ⟨?_, Same.refl _⟩
          rw [if_neg (fun z => c z.1), Int.one_mul]
      rintro σ H3 ⟨rfl, s3⟩
      rw [CB.rd_seq]
      walk_at "rs"
      have e3 : (n.natAbs : Int) / 2 ^ (Int.toNat ((v' : Nat) : Int)) = ((2 * qq' + 1 : Nat) : Int) := by
        rw [Int.toNat_natCast, e, Int.natCast_mul]
        have : (((2 ^ v' : Nat)) : Int) = 2 ^ v' := by simp
        rw [this, Int.mul_ediv_cancel_left _ (by rw [← this]; have := Nat.two_pow_pos v'; omega)]
      rw [e3]
      refine ⟨by omega, ?_⟩
      try walk_at "rs"
      have r0 := Int.emod_nonneg a (show ((2 * qq' + 1 : Nat) : Int) ≠ 0 by omega)
      refine ⟨by omega, (a % ((2 * qq' + 1 : Nat) : Int)).toNat, 2 * qq' + 1, ?_, by omega, fun H4 s4 => ⟨_, rfl, mulL ?_, ?_⟩⟩
      · rw [Int.toNat_of_nonneg r0]
      · unfold twoS negS
        split <;> split <;> decide
      · exact q _ (s3.trans s4)
end

section
variable {P : Program} {w : World} {K : PySem.W.Frag} {mg : Str → Option Value} {base : Heap} {CM CR aU a1 a2 : Addr}
theorem sqT_same {H H' : Hp} {a : Addr} {xs : List V} (s : Same H H') (h : SqT K H a xs) : SqT K H' a xs := by
  rcases h with (h | ⟨o, h⟩) | h
  · exact .inl (.inl (s _ _ h))
  · exact .inl (.inr ⟨o, s _ _ h⟩)
  · exact .inr h
theorem sqT_ty {H : Hp} {a : Addr} {xs : List V} (h : SqT K H a xs) : TyX K H (.ref a) (.type "tuple") := by
  rcases h with (h | ⟨o, h⟩) | ⟨o, its, n, e, c, _⟩
  · exact .base (.tup h)
  · exact .fTuple h
  · exact .kTuple e c
abbrev s__law_inner : Stmt := top 10
theorem sc__law_inner : FnScope ["value", "item"] ["value"] (defScope s__law_inner) := ⟨rfl, rfl, rfl, by decide +kernel, rfl, by decide +kernel, by decide +kernel⟩

def spInn : Sp := fun vs H Q _ => ∃ v : V, vs = [v] ∧ ((∃ n : Int, v = .int n) ∨ v = .non) ∧ Q v H
theorem cal_inn (D : Dn K mg "_law_inner" s__law_inner ["value"]) (B : Bl mg) : Cal P w K mg base "_law_inner" 1 ["value"] spInn := by
  refine D.cal sc__law_inner (fun vs H Q E h => ?_) (fun f cdv A outer s H vs Q E hr h => ?_)
  · obtain ⟨n, rfl, _⟩ := h
    rfl
  · obtain ⟨v, rfl, h, q⟩ := h
    refine ⟨_, (pss_cons (ps_if (pt_val (pe_callB call_isi rfl B.isinstance (by decide +kernel) (pa_cons (pv 0) (pa_cons (pe_bltn (v := .ty "tuple") rfl B.tuple boot_tuple rfl) pa_nil)))) pss_never pss_nil)
  (pss_cons (ps_if (PW.pt (pw_or (pt_cmpR op_isN (pv 0) pe_non (nomark _)) (pw_or (pt_val (pe_callB call_isi rfl B.isinstance (by decide +kernel) (pa_cons (pv 0) (pa_cons (pe_bltn (v := .ty "str") rfl B.str boot_str rfl) pa_nil)))) (pw_or1 (PW.pt (pw_and (pt_val (pe_callB call_isi rfl B.isinstance (by decide +kernel) (pa_cons (pv 0) (pa_cons (pe_bltn (v := .ty "int") rfl B.int boot_int rfl) pa_nil)))) (pw_and1 (pt_not (pt_val (pe_callB call_isi rfl B.isinstance (by decide +kernel) (pa_cons (pv 0) (pa_cons (pe_bltn (v := .ty "bool") rfl B.bool boot_bool rfl) pa_nil)))))))))))) (pss_one (ps_ret (pv 0))) pss_nil)
  (pss_one (ps_ret pe_str)))), ?_⟩
    walk_at "rd"
    rcases h with ⟨n, rfl⟩ | rfl
    · refine isi_mk (.base (.int n)) (b := false) (by decide +kernel) ⟨false, rfl, ?_⟩
      rw [if_neg Bool.false_ne_true, if_neg (fun z => by cases z)]
      refine isi_mk (.base (.int n)) (b := false) (by decide +kernel) ⟨false, rfl, ?_⟩
      rw [if_neg Bool.false_ne_true]
      refine isi_mk (.base (.int n)) (b := true) (by decide +kernel) ⟨true, rfl, ?_⟩
      rw [if_pos rfl]
      refine isi_mk (.base (.int n)) (b := false) (by decide +kernel) ⟨false, rfl, ?_⟩
      rw [if_pos (by decide)]
      exact q
    · refine isi_mk (.base .non) (b := false) (by decide +kernel) ⟨false, rfl, ?_⟩
      rw [if_neg Bool.false_ne_true, if_pos rfl]
      exact q
def spInnT (K : PySem.W.Frag) : Sp := fun vs H Q _ => ∃ (r : Addr) (ns : List Int), vs = [.ref r] ∧ SqT K H r (ns.map V.int) ∧ ns.length ≤ 10 ∧ ∀ p H', Same H H' → H p = none → H' p = some (.tup (ns.map V.int)) → Q (.ref p) H'
theorem cal_innT (D : Dn K mg "_law_inner" s__law_inner ["value"]) (B : Bl mg) (c__law_inner : Cal P w K mg base "_law_inner" 1 ["value"] spInn) : Cal P w K mg base "_law_inner" 2 ["value"] (spInnT K) := by
  refine D.cal sc__law_inner (fun vs H Q E h => ?_) (fun f cdv A outer s H vs Q E hr h => ?_)
  · obtain ⟨r, ns, rfl, _⟩ := h
    rfl
  · obtain ⟨r, ns, rfl, ht, hl, q⟩ := h
    refine ⟨_, (pss_cons (ps_if (pt_val (pe_callB call_isi rfl B.isinstance (by decide +kernel) (pa_cons (pv 0) (pa_cons (pe_bltn (v := .ty "tuple") rfl B.tuple boot_tuple rfl) pa_nil)))) (pss_one (ps_ret (pe_callTy cr_tupOf rfl B.tuple boot_tuple (pa_cons (pe_lc (own := [("item", 1)]) rfl sc__law_inner.nd (pi_tup (pv 0)) (blkOk_by (N := ["value", "item"]) (sc := defScope s__law_inner) (own := [("item", 1)]) (by decide +kernel)) (fun _ _ _ _ _ => (pg_name (i := 1) sc__law_inner.nd rfl (Or.inl rfl))) (fun _ _ _ _ _ => pts_nil) (fun _ _ _ _ _ => (pe_cal c__law_inner (hr.mono (by decide)) rfl (pa_cons (pv 1) pa_nil)))) pa_nil)))) pss_nil)
  (pss_cons (ps_if (PW.pt (pw_or (pt_cmpR op_isN (pv 0) pe_non (nomark _)) (pw_or (pt_val (pe_callB call_isi rfl B.isinstance (by decide +kernel) (pa_cons (pv 0) (pa_cons (pe_bltn (v := .ty "str") rfl B.str boot_str rfl) pa_nil)))) (pw_or1 (PW.pt (pw_and (pt_val (pe_callB call_isi rfl B.isinstance (by decide +kernel) (pa_cons (pv 0) (pa_cons (pe_bltn (v := .ty "int") rfl B.int boot_int rfl) pa_nil)))) (pw_and1 (pt_not (pt_val (pe_callB call_isi rfl B.isinstance (by decide +kernel) (pa_cons (pv 0) (pa_cons (pe_bltn (v := .ty "bool") rfl B.bool boot_bool rfl) pa_nil)))))))))))) (pss_one (ps_ret (pv 0))) pss_nil)
  (pss_one (ps_ret pe_str)))), ?_⟩
    walk_at "rd"
    refine isi_mk (sqT_ty ht) (b := true) (by decide +kernel) ⟨true, rfl, ?_⟩
    rw [if_pos rfl]
    refine ⟨⟨_, ht⟩, LcT.w (xs := ns.map V.int) (fun i D zs H3 => zs = (ns.take i).map V.int ∧ Same H H3 ∧ H3 D = some (.lst zs) ∧ H D = none) (fun D nD => ⟨rfl, same_upd nD, upd_same, nD⟩) ?_ ?_ ?_⟩
    · rintro D i zs H3 _ ⟨_, sm, _, _⟩
      exact sqT_same sm ht
    · rintro D i v zs H3 hv ⟨rfl, sm, hD, nD⟩ N hN
      rw [List.getElem?_map] at hv
      obtain ⟨n, hn, rfl⟩ := Option.map_eq_some_iff.mp hv
      have hi : i < ns.length := (List.getElem?_eq_some_iff.mp hn).1
      walk_at "rd"
      refine ⟨.int n, rfl, .inl ⟨n, rfl⟩, _, hD, ?_, hN _ _ ⟨?_, same_at sm nD, upd_same, nD⟩⟩
      · rw [List.length_map, List.length_take]
        exact small_size (by omega)
      · rw [List.take_add_one, hn, List.map_append]
        rfl
    · rintro D zs H3 nD ⟨rfl, sm, hD, _⟩
      try walk_at "rd"
      rw [List.length_map, List.take_length] at hD
      exact ⟨_, .inl ⟨SqL.of hD, fun l nl => q l _ (sm.trans (same_upd nl)) (sm.free nl) upd_same⟩⟩
abbrev s__law_plain : Stmt := top 11
theorem sc__law_plain : FnScope ["value"] ["value"] (defScope s__law_plain) := ⟨rfl, rfl, rfl, by decide +kernel, rfl, by decide +kernel, by decide +kernel⟩

def spPl (K : PySem.W.Frag) : Sp := fun vs H Q _ => ∃ v : V, vs = [v] ∧ ((((∃ n : Int, v = .int n) ∨ v = .non) ∧ Q v H) ∨
  ∃ (r : Addr) (ns : List Int), v = .ref r ∧ SqT K H r (ns.map V.int) ∧ ns.length ≤ 10 ∧ ∀ p H', Same H H' → H p = none → H' p = some (.tup (ns.map V.int)) → Q (.ref p) H')
theorem cal_pl1 (D : Dn K mg "_law_plain" s__law_plain ["value"]) (B : Bl mg) (c__law_inner : Cal P w K mg base "_law_inner" 1 ["value"] spInn) : Cal P w K mg base "_law_plain" 2 ["value"] spInn := by
  refine D.cal sc__law_plain (fun vs H Q E h => ?_) (fun f cdv A outer s H vs Q E hr h => ?_)
  · obtain ⟨v, rfl, _⟩ := h
    rfl
  · obtain ⟨v, rfl, h, q⟩ := h
    refine ⟨_, (pss_one (ps_ret (pe_ifExp (pt_val (pe_callB call_isi rfl B.isinstance (by decide +kernel) (pa_cons (pv 0) (pa_cons (pe_bltn (v := .ty "str") rfl B.str boot_str rfl) pa_nil)))) pe_str (pe_cal c__law_inner (hr.mono (by decide)) rfl (pa_cons (pv 0) pa_nil))))), ?_⟩
    walk_at "rd"
    rcases h with ⟨n, rfl⟩ | rfl
    · refine isi_mk (.base (.int n)) (b := false) (by decide +kernel) ⟨false, rfl, ?_⟩
      rw [if_neg Bool.false_ne_true]
      exact ⟨_, rfl, .inl ⟨n, rfl⟩, q⟩
    · refine isi_mk (.base .non) (b := false) (by decide +kernel) ⟨false, rfl, ?_⟩
      rw [if_neg Bool.false_ne_true]
      exact ⟨_, rfl, .inr rfl, q⟩
theorem cal_plT (D : Dn K mg "_law_plain" s__law_plain ["value"]) (B : Bl mg) (c__law_inner : Cal P w K mg base "_law_inner" 2 ["value"] (spInnT K)) : Cal P w K mg base "_law_plain" 3 ["value"] (spInnT K) := by
  refine D.cal sc__law_plain (fun vs H Q E h => ?_) (fun f cdv A outer s H vs Q E hr h => ?_)
  · obtain ⟨r, ns, rfl, _⟩ := h
    rfl
  · obtain ⟨r, ns, rfl, ht, hl, q⟩ := h
    refine ⟨_, (pss_one (ps_ret (pe_ifExp (pt_val (pe_callB call_isi rfl B.isinstance (by decide +kernel) (pa_cons (pv 0) (pa_cons (pe_bltn (v := .ty "str") rfl B.str boot_str rfl) pa_nil)))) pe_str (pe_cal c__law_inner (hr.mono (by decide)) rfl (pa_cons (pv 0) pa_nil))))), ?_⟩
    walk_at "rd"
    refine isi_mk (sqT_ty ht) (b := false) (by decide +kernel) ⟨false, rfl, ?_⟩
    rw [if_neg Bool.false_ne_true]
    exact ⟨r, ns, rfl, ht, hl, q⟩
abbrev s__law_whole : Stmt := top 12
theorem sc__law_whole : FnScope ["value", "due"] ["value", "due"] (defScope s__law_whole) := ⟨rfl, rfl, rfl, by decide +kernel, rfl, by decide +kernel, by decide +kernel⟩

def spWh : Sp := fun vs H Q _ => ∃ a b : Int, vs = [.int a, .int b] ∧ Q (.bl (decide (a = b))) H
theorem cal_wh (D : Dn K mg "_law_whole" s__law_whole ["value", "due"]) (B : Bl mg) : Cal P w K mg base "_law_whole" 1 ["value", "due"] spWh := by
  refine D.cal sc__law_whole (fun vs H Q E h => ?_) (fun f cdv A outer s H vs Q E hr h => ?_)
  · obtain ⟨a, b, rfl, _⟩ := h
    rfl
  · obtain ⟨a, b, rfl, q⟩ := h
    refine ⟨_, (pss_one (ps_ret (pe_and (pe_callB call_isi rfl B.isinstance (by decide +kernel) (pa_cons (pv 0) (pa_cons (pe_bltn (v := .ty "int") rfl B.int boot_int rfl) pa_nil))) (pe_and (pe_not (pe_callB call_isi rfl B.isinstance (by decide +kernel) (pa_cons (pv 0) (pa_cons (pe_bltn (v := .ty "bool") rfl B.bool boot_bool rfl) pa_nil)))) (pe_one (pe_cmpR op_eq (pv 0) (pv 1) (nomark _))))))), ?_⟩
    walk_at "rd"
    refine isi_mk (.base (.int a)) (b := true) (by decide +kernel) ⟨true, rfl, ?_⟩
    rw [if_pos rfl]
    refine isi_mk (.base (.int a)) (b := false) (by decide +kernel) ⟨false, rfl, ?_⟩
    rw [if_pos (by decide)]
    exact q
abbrev s__law_number : Stmt := top 13
theorem sc__law_number : FnScope ["state", "most"] ["state"] (defScope s__law_number) := ⟨rfl, rfl, rfl, by decide +kernel, rfl, by decide +kernel, by decide +kernel⟩

def T40 : Int := 10000000000000000000000000000000000000000
def spNum : Sp := fun vs H Q _ => ∃ (st : Addr) (x y : Int), vs = [.ref st] ∧ H st = some (.lst [.int x, .int y]) ∧ ∀ (n x' y' : Int) (H' : Hp), But st H H' → H' st = some (.lst [.int x', .int y']) → (n.natAbs : Int) ≤ T40 → Q (.int n) H'
theorem cal_num (D : Dn K mg "_law_number" s__law_number ["state"]) (B : Bl mg) (c__law_take : Cal P w K mg base "_law_take" 1 ["state", "m"] spTake) : Cal P w K mg base "_law_number" 2 ["state"] spNum := by
  refine D.cal sc__law_number (fun vs H Q E h => ?_) (fun f cdv A outer s H vs Q E hr h => ?_)
  · obtain ⟨st, x, y, rfl, _⟩ := h
    rfl
  · obtain ⟨st, x, y, rfl, hst, q⟩ := h
    refine ⟨_, (pss_cons (ps_set (i := 1) sc__law_number.nd rfl (Or.inl rfl) (pe_ix ix_list (pe_lst (pa_cons pe_int (pa_cons pe_int (pa_cons pe_int (pa_cons (pe_op op_powI pe_int pe_int) (pa_cons (pe_op op_powI pe_int pe_int) pa_nil)))))) (pe_cal c__law_take (hr.mono (by decide)) rfl (pa_cons (pv 0) (pa_cons pe_int pa_nil))) (fun _ _ => rfl)))
  (pss_one (ps_ret (pe_op op_sub (pe_cal c__law_take (hr.mono (by decide)) rfl (pa_cons (pv 0) (pa_cons (pe_op op_add (pe_op op_mulI pe_int (pv 1)) pe_int) pa_nil))) (pv 1))))), ?_⟩
    rw [CB.rd_seq]
    walk_at "rs"
    refine ⟨powI (n := 4) (by decide) (by decide) (by decide) (by decide), powI (n := 4) (by decide) (by decide) (by decide) (by decide), by decide, fun l nl => ?_⟩
    have sl : st ≠ l := ne_of_none hst nl
    refine ⟨st, x, y, 5, rfl, by rw [upd_ne sl]; exact hst, by decide, by decide +kernel, fun v x6 y6 v0 v1 => ?_⟩
    have pick : ∃ n, atI [V.int 1, V.int 12, V.int 1000, V.int (10 ^ Int.toNat 12), V.int (10 ^ Int.toNat 40)] v = some (.int n) ∧ 1 ≤ n ∧ n ≤ T40 := by
      have c : v = 0 ∨ v = 1 ∨ v = 2 ∨ v = 3 ∨ v = 4 := by omega
      rcases c with rfl | rfl | rfl | rfl | rfl <;> exact ⟨_, rfl, by decide +kernel, by decide +kernel⟩
    obtain ⟨n, en, n1, n2⟩ := pick
    refine ⟨_, v, rfl, SqL.of (by rw [upd_ne sl.symm, upd_same]), _, en, ?_⟩
    walk_at "rs"
    unfold T40 at n2 q
    refine ⟨mulL (by decide), st, x6, y6, 2 * n + 1, rfl, upd_same, by omega, Nat.lt_of_le_of_lt (log_lt (k := 200) (by show (2 * n + 1).natAbs < 2 ^ 201; omega)) (by decide), fun u x7 y7 u0 u1 => ⟨u, rfl, ?_⟩⟩
    exact q (u - n) x7 y7 _ (((But.of (same_upd nl)).upd).upd) upd_same (by omega)
abbrev s__law_powered : Stmt := top 16
theorem sc__law_powered : FnScope ["a", "e", "m", "found", "base"] ["a", "e", "m"] (defScope s__law_powered) := ⟨rfl, rfl, rfl, by decide +kernel, rfl, by decide +kernel, by decide +kernel⟩

theorem cal_lpow (D : Dn K mg "_law_powered" s__law_powered ["a", "e", "m"]) (B : Bl mg) : Cal P w K mg base "_law_powered" 1 ["a", "e", "m"] spPow := by
  refine D.cal sc__law_powered (fun vs H Q E h => ?_) (fun f cdv A outer s H vs Q E hr h => ?_)
  · obtain ⟨a, m, e, rfl, _⟩ := h
    rfl
  · obtain ⟨a, m, e, rfl, m0, zm, q⟩ := h
    refine ⟨_, (pss_cons (ps_par (i := 3) (j := 4) rfl sc__law_powered.nd rfl rfl (by decide) rfl rfl (pa_cons (pe_op op_mod (pe_callTy call_int1 rfl B.int boot_int (pa_cons pe_int pa_nil)) (pv 2)) (pa_cons (pe_op op_mod (pe_callTy call_int1 rfl B.int boot_int (pa_cons (pv 0) pa_nil)) (pv 2)) pa_nil)) (by rfl))
  (pss_cons (ps_while PassesOwn.never (pt_cmpR op_gt (pv 1) pe_int (nomark _)) (pss_cons (ps_if (pt_cmpR op_eq (pe_op op_mod (pe_callTy call_int1 rfl B.int boot_int (pa_cons (pv 1) pa_nil)) pe_int) pe_int (nomark _)) (pss_one (ps_set (i := 3) sc__law_powered.nd rfl (Or.inl rfl) (pe_op op_mod (pe_callTy call_int1 rfl B.int boot_int (pa_cons (pe_op op_mulI (pv 3) (pv 4)) pa_nil)) (pv 2)))) pss_nil)
  (pss_cons (ps_set (i := 4) sc__law_powered.nd rfl (Or.inl rfl) (pe_op op_mod (pe_callTy call_int1 rfl B.int boot_int (pa_cons (pe_op op_mulI (pv 4) (pv 4)) pa_nil)) (pv 2)))
  (pss_one (ps_set (i := 1) sc__law_powered.nd rfl (Or.inl rfl) (pe_op op_fdivW (pv 1) pe_int))))))
  (pss_one (ps_ret (pv 3))))), ?_⟩
    rw [CB.rd_seq]
    walk_at "rs"
    refine ⟨m0, m0, ?_⟩
    rw [CB.rd_seq]
    have md : ∀ z : Int, 0 ≤ z % m ∧ z % m < m := fun z => ⟨Int.emod_nonneg z (by omega), Int.emod_lt_of_pos z m0⟩
    refine while_w (fun σ H' => ∃ (b r : Int) (e' : Nat), σ = [some (.int a), some (.int e'), some (.int m), some (.int r), some (.int b)] ∧ H' = H ∧ (0 ≤ b ∧ b < m) ∧ (0 ≤ r ∧ r < m) ∧ (r * b ^ e') % m = (a ^ e) % m)
      (fun σ _ => match σ with | [_, some (.int e'), _, _, _] => e'.toNat | _ => 0) ⟨a % m, 1 % m, e, rfl, rfl, md _, md _, by rw [mod_mul_pow, Int.one_mul]⟩ ?_
    rintro σ H' ⟨b, r, e', rfl, rfl, hb0, hr0, inv⟩ N hN
    refine ⟨decide (0 < (e' : Int)), fun Q' q' => ?_, fun hb => ?_, fun hb => ?_⟩
    · walk_at "rd"
      exact q'
    · have he : 0 < (e' : Int) := of_decide_eq_true hb
      have zb : Sz 600 b := natS (by omega) zm
      have zr : Sz 600 r := natS (by omega) zm
      rw [pow_stepI] at inv
      have e2 : (e' : Int) / 2 = ((e' / 2 : Nat) : Int) := by omega
      have fin : ∀ r1 : Int, (0 ≤ r1 ∧ r1 < m) → (r1 * (b * b) ^ (e' / 2)) % m = (a ^ e) % m → N [some (.int a), some (.int ((e' : Int) / 2)), some (.int m), some (.int r1), some (.int ((b * b) % m))] H' := fun r1 h1 h2 => by
        rw [e2]
        refine hN _ _ ⟨(b * b) % m, r1, e' / 2, rfl, rfl, md _, h1, ?_⟩ (by show ((e' / 2 : Nat) : Int).toNat < (e' : Int).toNat; omega)
        have hh := mod_mul_pow (r := r1) (b := b * b) (m := m) (e' / 2)
        rw [Int.emod_eq_of_lt h1.1 h1.2] at hh
        rw [hh]
        exact h2
      rw [CB.rd_seq]
      walk_at "rs"
      refine ⟨by decide, ite2 (fun c => ?_) (fun c => ?_)⟩
      · rw [if_pos (by omega), ← Int.mul_assoc] at inv
        refine ⟨zr.ok zb (by decide) (by decide), m0, ?_⟩
        rw [CB.rd_seq]
        walk_at "rs"
        refine ⟨zb.ok zb (by decide) (by decide), m0, ⟨by decide, by decide +kernel⟩, fin _ (md _) ?_⟩
        rw [← inv, Int.mul_emod, Int.emod_emod, ← Int.mul_emod]
      · rw [if_neg (by omega), Int.one_mul] at inv
        rw [CB.rd_seq]
        walk_at "rs"
        exact ⟨zb.ok zb (by decide) (by decide), m0, ⟨by decide, by decide +kernel⟩, fin _ hr0 inv⟩
    · have he : e' = 0 := by
        have := of_decide_eq_false hb
        omega
      subst he
      rw [Int.pow_zero, Int.mul_one, Int.emod_eq_of_lt hr0.1 hr0.2] at inv
      walk_at "rd"
      rw [inv]
      exact q
end

/-! ### the signs at small primes, by squares -/
def leg (p a : Nat) : Int := if a = 0 then 0 else if (List.range p).any (fun x => x != 0 && x * x % p == a) then 1 else -1
def PR : List Nat := [3, 5, 7, 11, 13, 17, 19, 23, 29, 31, 37, 41, 43, 47, 53, 59, 61, 67, 71, 73, 79, 83, 89, 97, 101, 103, 107, 109, 113, 127, 131, 137, 139, 149, 151, 157, 163, 167, 173, 179, 181, 191, 193, 197, 199]
def legOk (p : Nat) : Bool := (List.range p).all fun a => decide (js a p = leg p a)
theorem leg_0 : [3, 5, 7, 11, 13, 17, 19, 23, 29, 31, 37, 41, 43, 47, 53, 59, 61, 67, 71, 73, 79, 83, 89, 97, 101, 103, 107, 109, 113].all legOk = true := by decide +kernel
theorem leg_1 : [127, 131, 137, 139, 149, 151, 157].all legOk = true := by decide +kernel
theorem leg_2 : [163, 167, 173, 179, 181].all legOk = true := by decide +kernel
theorem leg_3 : [191, 193, 197, 199].all legOk = true := by decide +kernel
theorem leg_all : PR.all legOk = true := by
  rw [show PR = [3, 5, 7, 11, 13, 17, 19, 23, 29, 31, 37, 41, 43, 47, 53, 59, 61, 67, 71, 73, 79, 83, 89, 97, 101, 103, 107, 109, 113] ++ ([127, 131, 137, 139, 149, 151, 157] ++ ([163, 167, 173, 179, 181] ++ ([191, 193, 197, 199]))) from rfl]
  rw [List.all_append, List.all_append, List.all_append, leg_0, leg_1, leg_2, leg_3]
  rfl

section
variable {P : Program} {w : World} {K : PySem.W.Frag} {mg : Str → Option Value} {base : Heap} {CM CR aU a1 a2 : Addr}
def s2 (a : Int) : Int := if a % 2 = 0 then 0 else if a % 8 = 3 ∨ a % 8 = 5 then -1 else 1
def sAt (a p : Int) : Int := if p = -1 then (if a < 0 then -1 else 1) else if p = 2 then s2 a else jI a p.toNat
theorem jI_leg {a : Int} {p : Nat} (h : p ∈ PR) : jI a p = leg p (a % (p : Int)).toNat := by
  have h1 := List.all_eq_true.mp leg_all p h
  unfold legOk at h1
  have p0 : 0 < p := by
    have : ∀ x ∈ PR, 0 < x := by decide
    exact this p h
  have r1 := Int.emod_lt_of_pos a (show (0 : Int) < (p : Int) by omega)
  have r0 := Int.emod_nonneg a (show (p : Int) ≠ 0 by omega)
  have h2 := List.all_eq_true.mp h1 (a % (p : Int)).toNat (List.mem_range.mpr (by omega))
  exact of_decide_eq_true h2
theorem in_ints (n : Int) : ∀ ns : List Int, inV (.int n) (ns.map V.int) = ns.any (· == n)
  | [] => rfl
  | m :: ns => by
    have e : inV (.int n) ((m :: ns).map V.int) = ((m == n) || inV (.int n) (ns.map V.int)) := rfl
    rw [e, in_ints n ns]
    rfl
theorem flat_ints : ∀ ns : List Int, (ns.map V.int).all flatV = true
  | [] => rfl
  | m :: ns => by
    show (flatV (.int m) && (ns.map V.int).all flatV) = true
    rw [flat_ints ns]
    rfl
def sqs (p k : Nat) : List Int := (List.range k).map fun x : Nat => (((x : Int) + 1) * ((x : Int) + 1)) % (p : Int)
theorem sqs_any {p r : Nat} : (sqs p (p - 1)).any (· == (r : Int)) = (List.range p).any (fun x => x != 0 && x * x % p == r) := by
  rw [Bool.eq_iff_iff, List.any_eq_true, List.any_eq_true]
  constructor
  · rintro ⟨z, hz, e⟩
    obtain ⟨x, hx, rfl⟩ := List.mem_map.mp hz
    have hx := List.mem_range.mp hx
    refine ⟨x + 1, List.mem_range.mpr (by omega), ?_⟩
    have e := eq_of_beq e
    have e2 : (((x + 1) * (x + 1) % p : Nat) : Int) = (r : Int) := by
      rw [← e, Int.natCast_emod, Int.natCast_mul]
      rfl
    rw [Bool.and_eq_true]
    refine ⟨by simp, ?_⟩
    rw [beq_iff_eq]
    exact Int.ofNat_inj.mp e2
  · rintro ⟨x, hx, e⟩
    have hx := List.mem_range.mp hx
    rw [Bool.and_eq_true] at e
    have x0 : x ≠ 0 := by simpa using e.1
    have e2 := eq_of_beq e.2
    refine ⟨(r : Int), List.mem_map.mpr ⟨x - 1, List.mem_range.mpr (by omega), ?_⟩, by simp⟩
    rw [← e2, Int.natCast_emod, Int.natCast_mul]
    have : ((x - 1 : Nat) : Int) + 1 = (x : Int) := by omega
    rw [this]
abbrev s__law_sign_at : Stmt := top 17
theorem sc__law_sign_at : FnScope ["a", "p", "x"] ["a", "p"] (defScope s__law_sign_at) := ⟨rfl, rfl, rfl, by decide +kernel, rfl, by decide +kernel, by decide +kernel⟩

def spSa : Sp := fun vs H Q _ => ∃ a p : Int, vs = [.int a, .int p] ∧ (p = -1 ∨ p = 2 ∨ ∃ p' : Nat, p' ∈ PR ∧ p = (p' : Int)) ∧ ∀ H', Same H H' → Q (.int (sAt a p)) H'
theorem cal_sa (D : Dn K mg "_law_sign_at" s__law_sign_at ["a", "p"]) (B : Bl mg) : Cal P w K mg base "_law_sign_at" 1 ["a", "p"] spSa := by
  refine D.cal sc__law_sign_at (fun vs H Q E h => ?_) (fun f cdv A outer s H vs Q E hr h => ?_)
  · obtain ⟨a, p, rfl, _⟩ := h
    rfl
  · obtain ⟨a, p, rfl, hp, q⟩ := h
    refine ⟨_, (pss_cons (ps_if (pt_cmpR op_eq (pv 1) (pe_un un_neg pe_int) (nomark _)) (pss_one (ps_ret (pe_ix ix_list (pe_lst (pa_cons pe_int (pa_cons (pe_un un_neg pe_int) pa_nil))) (pe_callTy call_int1 rfl B.int boot_int (pa_cons (pe_cmpR op_lt (pv 0) pe_int (nomark _)) pa_nil)) (fun _ _ => rfl)))) pss_nil)
  (pss_cons (ps_if (pt_cmpR op_eq (pv 1) pe_int (nomark _)) (pss_one (ps_ret (pe_ix ix_list (pe_lst (pa_cons pe_int (pa_cons pe_int (pa_cons pe_int (pa_cons (pe_un un_neg pe_int) (pa_cons pe_int (pa_cons (pe_un un_neg pe_int) (pa_cons pe_int (pa_cons pe_int pa_nil))))))))) (pe_op op_mod (pe_callTy call_int1 rfl B.int boot_int (pa_cons (pv 0) pa_nil)) pe_int) (fun _ _ => rfl)))) pss_nil)
  (pss_cons (ps_if (pt_cmpR op_eq (pe_op op_mod (pe_callTy call_int1 rfl B.int boot_int (pa_cons (pv 0) pa_nil)) (pv 1)) pe_int (nomark _)) (pss_one (ps_ret pe_int)) pss_nil)
  (pss_one (ps_ret (pe_ix ix_list (pe_lst (pa_cons (pe_un un_neg pe_int) (pa_cons pe_int pa_nil))) (pe_callTy call_int1 rfl B.int boot_int (pa_cons (pe_cmpR op_in_seq (pe_op op_mod (pe_callTy call_int1 rfl B.int boot_int (pa_cons (pv 0) pa_nil)) (pv 1)) (pe_lc (own := [("x", 2)]) rfl sc__law_sign_at.nd (pi_range2 rfl B.range (pa_cons pe_int (pa_cons (pv 1) pa_nil))) (blkOk_by (N := ["a", "p", "x"]) (sc := defScope s__law_sign_at) (own := [("x", 2)]) (by decide +kernel)) (fun _ _ _ _ _ => (pg_name (i := 2) sc__law_sign_at.nd rfl (Or.inl rfl))) (fun _ _ _ _ _ => pts_nil) (fun _ _ _ _ _ => (pe_op op_mod (pe_callTy call_int1 rfl B.int boot_int (pa_cons (pe_op op_mulI (pv 2) (pv 2)) pa_nil)) (pv 1)))) (by rfl)) pa_nil)) (fun _ _ => rfl))))))), ?_⟩
    rw [CB.rd_seq]
    walk_at "rs"
    refine ite2 (fun c => ?_) (fun c => ?_)
    · refine ⟨by decide, fun l nl => ⟨_, SqL.of upd_same, ?_⟩⟩
      have q' := q _ (same_upd (o := HO.lst [V.int 1, V.int (-1)]) nl)
      unfold sAt at q'
      rw [if_pos c] at q'
      by_cases ca : a < 0
      · rw [if_pos ca] at q'
        rw [decide_eq_true ca, if_pos rfl]
        exact ⟨_, rfl, q'⟩
      · rw [if_neg ca] at q'
        rw [decide_eq_false ca, if_neg (by decide)]
        exact ⟨_, rfl, q'⟩
    · rw [CB.rd_seq]
      walk_at "rs"
      refine ite2 (fun c2 => ?_) (fun c2 => ?_)
      · refine ⟨by decide, fun l nl => ⟨by decide, _, SqL.of upd_same, ?_⟩⟩
        have q' := q _ (same_upd (o := HO.lst [V.int 0, V.int 1, V.int 0, V.int (-1), V.int 0, V.int (-1), V.int 0, V.int 1]) nl)
        unfold sAt s2 at q'
        rw [if_neg c, if_pos c2] at q'
        have c8 : a % 8 = 0 ∨ a % 8 = 1 ∨ a % 8 = 2 ∨ a % 8 = 3 ∨ a % 8 = 4 ∨ a % 8 = 5 ∨ a % 8 = 6 ∨ a % 8 = 7 := by omega
        rcases c8 with z | z | z | z | z | z | z | z
        · rw [if_pos (by omega)] at q'; rw [z]; exact ⟨_, rfl, q'⟩
        · rw [if_neg (by omega), if_neg (by omega)] at q'; rw [z]; exact ⟨_, rfl, q'⟩
        · rw [if_pos (by omega)] at q'; rw [z]; exact ⟨_, rfl, q'⟩
        · rw [if_neg (by omega), if_pos (by omega)] at q'; rw [z]; exact ⟨_, rfl, q'⟩
        · rw [if_pos (by omega)] at q'; rw [z]; exact ⟨_, rfl, q'⟩
        · rw [if_neg (by omega), if_pos (by omega)] at q'; rw [z]; exact ⟨_, rfl, q'⟩
        · rw [if_pos (by omega)] at q'; rw [z]; exact ⟨_, rfl, q'⟩
        · rw [if_neg (by omega), if_neg (by omega)] at q'; rw [z]; exact ⟨_, rfl, q'⟩
      · obtain ⟨p', hP, rfl⟩ := (hp.resolve_left c).resolve_left c2
        have p0 : 2 < p' ∧ p' < 200 := by
          have : ∀ x ∈ PR, 2 < x ∧ x < 200 := by decide
          exact this p' hP
        have ej : sAt a (p' : Int) = leg p' (a % (p' : Int)).toNat := by
          unfold sAt
          rw [if_neg (by omega), if_neg (by omega), Int.toNat_natCast, jI_leg hP]
        have r0 := Int.emod_nonneg a (show (p' : Int) ≠ 0 by omega)
        rw [CB.rd_seq]
        walk_at "rs"
        refine ⟨by omega, ite2 (fun c3 => ?_) (fun c3 => ?_)⟩
        · have q' := q _ (Same.refl H)
          rw [ej] at q'
          unfold leg at q'
          rw [if_pos (by omega)] at q'
          exact q'
        · refine ⟨by decide, fun l nl => ⟨by omega, by decide, by decide, by omega, by omega, ?_⟩⟩
          have sl := same_upd (o := HO.lst [V.int (-1), V.int 1]) nl
          have hl : (upd H l (.lst [V.int (-1), V.int 1])) l = some (.lst [V.int (-1), V.int 1]) := upd_same
          generalize upd H l (.lst [V.int (-1), V.int 1]) = H1 at *
          have en : ((p' : Int) - 1).toNat = p' - 1 := by omega
          rw [en]
          refine LcR.w (fun i D zs H7 => zs = (sqs p' i).map V.int ∧ Same H1 H7 ∧ H7 D = some (.lst zs) ∧ H1 D = none) (fun D nD => ⟨rfl, same_upd nD, upd_same, nD⟩) ?_ ?_
          · rintro D i zs H7 hi ⟨rfl, sm, hD, nD⟩ N hN
            walk_at "rd"
            refine ⟨mulL (by omega), by omega, _, hD, ?_, hN _ _ ⟨?_, same_at sm nD, upd_same, nD⟩⟩
            · unfold sqs
              rw [List.length_map, List.length_map, List.length_range]
              exact small_size (by omega)
            · unfold sqs
              rw [List.range_succ, List.map_append, List.map_append]
              show _ = _ ++ [V.int ((((i : Int) + 1) * ((i : Int) + 1)) % (p' : Int))]
              rw [Int.add_comm 1 (i : Int)]
          · rintro D zs H7 nD ⟨rfl, sm, hD, nD1⟩
            refine ⟨D, _, rfl, .inl (SqL.of hD), rfl, flat_ints _, .inr ⟨_, rfl, _, SqL.of (sm _ _ hl), ?_⟩⟩
            rw [if_neg (show ¬ (false = true) by decide), in_ints]
            have q' := q _ (sl.trans sm)
            rw [ej] at q'
            have et : (((a % (p' : Int)).toNat : Nat) : Int) = a % (p' : Int) := Int.toNat_of_nonneg r0
            have es := sqs_any (p := p') (r := (a % (p' : Int)).toNat)
            rw [et] at es
            rw [es]
            unfold leg at q'
            rw [if_neg (by omega)] at q'
            cases hb : (List.range p').any (fun x => x != 0 && x * x % p' == (a % (p' : Int)).toNat) with
            | true =>
              rw [if_pos hb] at q'
              rw [if_pos rfl]
              exact ⟨_, rfl, q'⟩
            | false =>
              rw [if_neg (by rw [hb]; decide)] at q'
              rw [if_neg (by decide)]
              exact ⟨_, rfl, q'⟩
end

section
variable {P : Program} {w : World} {K : PySem.W.Frag} {mg : Str → Option Value} {base : Heap} {CM CR aU a1 a2 : Addr}
/-! ### the sieve, step by step, as a function -/
theorem ixNk {n j : Nat} (hj : j < n) : ixN n (j : Int) = some j := by
  show (if (0 : Int) ≤ (j : Int) then (if (j : Int) < (n : Int) then some (j : Int).toNat else none) else _) = _
  rw [if_pos (show (0 : Int) ≤ (j : Int) by omega), if_pos (show (j : Int) < (n : Int) by omega), Int.toNat_natCast]
def clr (n : Nat) (ms : List Bool) : Nat → List Bool
  | 0 => ms
  | k + 1 => (clr n ms k).set (n * n + k * n) false
def siv (most : Nat) : Nat → List Bool × List Nat
  | 0 => (List.replicate (most + 1) true, [])
  | i + 1 => let s := siv most i
    let n := i + 2
    if s.1.getD n false then (clr n s.1 ((Builtin.Range.rangeSize ((n * n : Nat) : Int) ((most + 1 : Nat) : Int) (n : Int)).toNat), s.2 ++ [n]) else s
theorem clr_len (n : Nat) (ms : List Bool) : ∀ k, (clr n ms k).length = ms.length
  | 0 => rfl
  | k + 1 => by
    show ((clr n ms k).set _ false).length = _
    rw [List.length_set, clr_len n ms k]
theorem siv_len (most : Nat) : ∀ i, (siv most i).1.length = most + 1 ∧ (siv most i).2.length ≤ i
  | 0 => ⟨List.length_replicate .., Nat.le_refl _⟩
  | i + 1 => by
    obtain ⟨a, b⟩ := siv_len most i
    have e : siv most (i + 1) = if (siv most i).1.getD (i + 2) false then (clr (i + 2) (siv most i).1 ((Builtin.Range.rangeSize (((i + 2) * (i + 2) : Nat) : Int) ((most + 1 : Nat) : Int) ((i + 2 : Nat) : Int)).toNat), (siv most i).2 ++ [i + 2]) else siv most i := rfl
    rw [e]
    split
    · refine ⟨?_, ?_⟩
      · show (clr _ _ _).length = _
        rw [clr_len, a]
      · show (_ ++ [i + 2]).length ≤ _
        rw [List.length_append]
        show _ + 1 ≤ _
        omega
    · exact ⟨a, by omega⟩
def rngOk (n : Nat) : Bool := Builtin.Range.small ((n * n : Nat) : Int) 201 (n : Int) && decide (Builtin.Range.rangeSize ((n * n : Nat) : Int) 201 (n : Int) = (((Builtin.Range.rangeSize ((n * n : Nat) : Int) 201 (n : Int)).toNat : Nat) : Int)) &&
  (List.range ((Builtin.Range.rangeSize ((n * n : Nat) : Int) 201 (n : Int)).toNat)).all fun j => decide (n * n + j * n < 201)
theorem rng_all : (List.range 199).all (fun i => rngOk (i + 2)) = true := by decide +kernel
theorem rng_at {i : Nat} (h : i < 199) : RgC (((i + 2) * (i + 2) : Nat) : Int) 201 ((i + 2 : Nat) : Int) ((Builtin.Range.rangeSize (((i + 2) * (i + 2) : Nat) : Int) 201 ((i + 2 : Nat) : Int)).toNat) ∧
    ∀ j, j < (Builtin.Range.rangeSize (((i + 2) * (i + 2) : Nat) : Int) 201 ((i + 2 : Nat) : Int)).toNat → (i + 2) * (i + 2) + j * (i + 2) < 201 := by
  have a := List.all_eq_true.mp rng_all i (List.mem_range.mpr h)
  unfold rngOk at a
  rw [Bool.and_eq_true, Bool.and_eq_true] at a
  obtain ⟨⟨a1, a2⟩, a3⟩ := a
  refine ⟨⟨by omega, by omega, a1, of_decide_eq_true a2⟩, fun j hj => ?_⟩
  exact of_decide_eq_true (List.all_eq_true.mp a3 j (List.mem_range.mpr hj))
theorem siv_200 : (siv 200 199).2 = 2 :: PR := by decide +kernel
abbrev s__law_primes : Stmt := top 15
theorem sc__law_primes : FnScope ["most", "marks", "found", "n", "k"] ["most"] (defScope s__law_primes) := ⟨rfl, rfl, rfl, by decide +kernel, rfl, by decide +kernel, by decide +kernel⟩

def vNs (ns : List Nat) : List V := ns.map fun n : Nat => V.int (n : Int)
def spPr : Sp := fun vs H Q _ => vs = [.int 200] ∧ ∀ l H', Same H H' → H l = none → H' l = some (.lst (vNs (2 :: PR))) → Q (.ref l) H'
theorem cal_pr (D : Dn K mg "_law_primes" s__law_primes ["most"]) (B : Bl mg) : Cal P w K mg base "_law_primes" 1 ["most"] spPr := by
  refine D.cal sc__law_primes (fun vs H Q E h => ?_) (fun f cdv A outer s H vs Q E hr h => ?_)
  · obtain ⟨rfl, _⟩ := h
    rfl
  · obtain ⟨rfl, q⟩ := h
    refine ⟨_, (pss_cons (ps_setLc (i := 1) (own := [("n", 3)]) rfl sc__law_primes.nd rfl rfl (sw_true rfl rfl rfl (by decide +kernel)) (pi_range1 rfl B.range (pa_cons (pe_op op_add (pe_callB (call_max2 rfl) rfl B.max (by decide +kernel) (pa_cons (pv 0) (pa_cons pe_int pa_nil))) pe_int) pa_nil)) (blkOk_by (N := ["most", "marks", "found", "n", "k"]) (sc := defScope s__law_primes) (own := [("n", 3)]) (by decide +kernel)) (fun _ _ _ _ _ => (pg_name (i := 3) sc__law_primes.nd rfl (Or.inl rfl))) (fun _ _ _ _ _ => pts_nil) (fun _ _ _ _ _ => pe_bl))
  (pss_cons (ps_set (i := 2) sc__law_primes.nd rfl (Or.inl rfl) (pe_lst pa_nil))
  (pss_cons (ps_for PassesOwn.never rfl (pi_range2 rfl B.range (pa_cons pe_int (pa_cons (pe_op op_add (pv 0) pe_int) pa_nil))) (pg_name (i := 3) sc__law_primes.nd rfl (Or.inl rfl)) (pss_one (ps_if (pt_truth (pe_ix ix_list (pv 1) (pv 3) (fun _ _ => rfl)) (by intro _; rfl)) (pss_cons (ps_expr (pe_bm PySem.F.plainAttrs_list PySem.F.slot_list_append PySem.F.type_list_append mt_append (pv 2) (pa_cons (pv 3) pa_nil)))
  (pss_one (ps_for PassesOwn.never rfl (pi_range3 rfl B.range (pa_cons (pe_op op_mulI (pv 3) (pv 3)) (pa_cons (pe_op op_add (pv 0) pe_int) (pa_cons (pv 3) pa_nil)))) (pg_name (i := 4) sc__law_primes.nd rfl (Or.inl rfl)) (pss_one (ps_asg pe_bl (pg_sub (pv 1) (pv 4) set_list)))))) pss_nil)))
  (pss_one (ps_ret (pv 2)))))), ?_⟩
    rw [CB.rd_seq]
    walk_at "rs"
    rw [if_neg (by decide)]
    refine ⟨by decide, by decide, ?_⟩
    show LcR 0 201 _ _ _ _ _ _ _
    refine LcR.w (fun i D zs H7 => zs = (List.replicate i true).map V.bl ∧ Same H H7 ∧ H7 D = some (.lst zs) ∧ H D = none) (fun D nD => ⟨rfl, same_upd nD, upd_same, nD⟩) ?_ ?_
    · rintro D i zs H7 hi ⟨rfl, sm, hD, nD⟩ N hN
      walk_at "rd"
      refine ⟨_, hD, ?_, hN _ _ ⟨?_, same_at sm nD, upd_same, nD⟩⟩
      · rw [List.length_map, List.length_replicate]
        exact small_size (by omega)
      · rw [List.replicate_succ', List.map_append]
        rfl
    rintro pm zs H1 n1 ⟨rfl, s1, h1, n1H⟩
    show tSeq _ _ _ _ _
    rw [CB.rd_seq]
    walk_at "rs"
    refine ⟨by decide, fun pf nf => ?_⟩
    have ne : pm ≠ pf := fun e => by
      rw [← e, h1] at nf
      cases nf
    have sf := same_upd (o := HO.lst []) nf
    have nfH : H pf = none := s1.free nf
    rw [CB.rd_seq]
    walk_at "rs"
    refine ⟨by decide, by decide, by decide, by decide, ?_⟩
    show ForR 2 199 _ _ _ _ _
    refine ForR.w (fun i σ H2 => ∃ s3 s4, σ = [some (.int 200), some (.ref pm), some (.ref pf), s3, s4] ∧ Same H H2 ∧ H2 pm = some (.lst ((siv 200 i).1.map V.bl)) ∧ H2 pf = some (.lst (vNs (siv 200 i).2))) ⟨_, _, rfl, s1.trans sf, sf _ _ h1, upd_same⟩ ?_ ?_
    · rintro i σ H2 hi ⟨s3, s4, rfl, sm, hm, hf⟩ N hN
      obtain ⟨l1, l2⟩ := siv_len 200 i
      have e : siv 200 (i + 1) = if (siv 200 i).1.getD (i + 2) false then (clr (i + 2) (siv 200 i).1 ((Builtin.Range.rangeSize (((i + 2) * (i + 2) : Nat) : Int) ((200 + 1 : Nat) : Int) ((i + 2 : Nat) : Int)).toNat), (siv 200 i).2 ++ [i + 2]) else siv 200 i := rfl
      obtain ⟨rg, rb⟩ := rng_at hi
      have e2 : (2 : Int) + (i : Int) = ((i + 2 : Nat) : Int) := by omega
      rw [e2]
      have hg : (siv 200 i).1[i + 2]? = some ((siv 200 i).1.getD (i + 2) false) := by
        rw [List.getD_eq_getElem?_getD, List.getElem?_eq_getElem (by omega)]
        rfl
      walk_at "rs"
      refine ⟨_, SqL.of hm, V.bl ((siv 200 i).1.getD (i + 2) false), atI_nat (by rw [List.getElem?_map, hg]; rfl), (siv 200 i).1.getD (i + 2) false, rfl, ?_⟩
      cases hb : (siv 200 i).1.getD (i + 2) false with
      | false =>
        rw [hb, if_neg (by decide)] at e
        rw [if_neg (by decide)]
        exact hN _ _ ⟨_, _, rfl, sm, by rw [e]; exact hm, by rw [e]; exact hf⟩
      | true =>
        rw [hb, if_pos rfl] at e
        rw [if_pos rfl]
        rw [CB.rd_seq]
        walk_at "rs"
        have em : ((i + 2 : Nat) : Int) * ((i + 2 : Nat) : Int) = (((i + 2) * (i + 2) : Nat) : Int) := (Int.natCast_mul _ _).symm
        rw [em]
        have fl : (vNs (siv 200 i).2).length ≤ 200 := by
          unfold vNs
          rw [List.length_map]
          omega
        refine ⟨tyL hf, _, hf, small_size (by omega), mulL (by omega), _, rg, ?_⟩
        have hm3 : (upd H2 pf (.lst (vNs (siv 200 i).2 ++ [V.int ((i + 2 : Nat) : Int)]))) pm = some (.lst ((siv 200 i).1.map V.bl)) := by rw [upd_ne ne]; exact hm
        have hf3 : (upd H2 pf (.lst (vNs (siv 200 i).2 ++ [V.int ((i + 2 : Nat) : Int)]))) pf = some (.lst (vNs ((siv 200 i).2 ++ [i + 2]))) := by
          rw [upd_same]
          unfold vNs
          rw [List.map_append]
          rfl
        have sm3 := same_at (o := HO.lst (vNs (siv 200 i).2 ++ [V.int ((i + 2 : Nat) : Int)])) sm nfH
        generalize upd H2 pf (.lst (vNs (siv 200 i).2 ++ [V.int ((i + 2 : Nat) : Int)])) = H3 at *
        refine ForC.w (fun j σ H4 => ∃ s4, σ = [some (.int 200), some (.ref pm), some (.ref pf), some (.int ((i + 2 : Nat) : Int)), s4] ∧ Same H H4 ∧ H4 pm = some (.lst ((clr (i + 2) (siv 200 i).1 j).map V.bl)) ∧ H4 pf = some (.lst (vNs ((siv 200 i).2 ++ [i + 2])))) ⟨_, rfl, sm3, hm3, hf3⟩ ?_ ?_
        · rintro j σ H4 hj ⟨s4, rfl, sm4, hm4, hf4⟩ N4 hN4
          have hk := rb j hj
          have ek : (((i + 2) * (i + 2) : Nat) : Int) + (j : Int) * ((i + 2 : Nat) : Int) = (((i + 2) * (i + 2) + j * (i + 2) : Nat) : Int) := by
            have e5 : ((j * (i + 2) : Nat) : Int) = (j : Int) * ((i + 2 : Nat) : Int) := Int.natCast_mul _ _
            omega
          rw [ek]
          walk_at "rs"
          refine ⟨_, hm4, (i + 2) * (i + 2) + j * (i + 2), ixNk (by rw [List.length_map, clr_len, l1]; omega), hN4 _ _ ⟨_, rfl, ?_, ?_, ?_⟩⟩
          · exact same_at sm4 n1H
          · rw [upd_same]
            show _ = some (HO.lst (((clr (i + 2) (siv 200 i).1 j).set ((i + 2) * (i + 2) + j * (i + 2)) false).map V.bl))
            rw [List.map_set]
          · rw [upd_ne ne.symm]
            exact hf4
        · rintro σ H4 ⟨s4, rfl, sm4, hm4, hf4⟩
          refine hN _ _ ⟨_, _, rfl, sm4, ?_, ?_⟩
          · rw [e]; exact hm4
          · rw [e]; exact hf4
    · rintro σ H2 ⟨s3, s4, rfl, sm, hm, hf⟩
      walk_at "rs"
      refine q pf H2 sm nfH ?_
      rw [hf]
      show some (HO.lst (vNs (siv 200 199).2)) = _
      rw [siv_200]
end

section
variable {P : Program} {w : World} {K : PySem.W.Frag} {mg : Str → Option Value} {base : Heap} {CM CR aU a1 a2 : Addr}
theorem jI_mul {a : Int} {m n : Nat} (hm : m % 2 = 1) (hn : n % 2 = 1) : jI a (m * n) = jI a m * jI a n := by
  have red : ∀ k : Nat, k % 2 = 1 → ∀ l : Nat, l % 2 = 1 → js (a % ((k * l : Nat) : Int)).toNat k = jI a k := fun k hk l hl => by
    have r0 := Int.emod_nonneg a (show ((k * l : Nat) : Int) ≠ 0 by
      have : 0 < k * l := Nat.mul_pos (by omega) (by omega)
      omega)
    unfold jI
    rw [← js_mod]
    congr 1
    have e : (((a % ((k * l : Nat) : Int)).toNat % k : Nat) : Int) = a % (k : Int) := by
      rw [Int.natCast_emod, Int.toNat_of_nonneg r0]
      exact Int.emod_emod_of_dvd a (by rw [Int.natCast_mul]; exact Int.dvd_mul_right ..)
    omega
  have h := js_nmul (a := (a % ((m * n : Nat) : Int)).toNat) hm hn
  rw [red m hm n hn] at h
  have h2 := red n hn m hm
  rw [Nat.mul_comm n m] at h2
  rw [h2] at h
  exact h
theorem jI_bd (a : Int) (n : Nat) : (jI a n).natAbs ≤ 1 := by
  unfold jI js sg
  split
  · split <;> decide
  · decide
def dF (a n : Int) (v q : Nat) : Int := if 0 < v ∧ a % 2 = 0 then 0 else twoS a v * negS a n * jI a (2 * q + 1)
theorem sAt_bd (a p : Int) : (sAt a p).natAbs ≤ 1 := by
  unfold sAt s2
  split
  · split <;> decide
  · split
    · split
      · decide
      · split <;> decide
    · exact jI_bd _ _
theorem dF_bd (a n : Int) (v q : Nat) : (dF a n v q).natAbs ≤ 1 := by
  unfold dF
  split
  · decide
  · rw [Int.natAbs_mul, Int.natAbs_mul]
    have h1 : (twoS a v).natAbs = 1 := by unfold twoS; split <;> rfl
    have h2 : (negS a n).natAbs = 1 := by unfold negS; split <;> rfl
    rw [h1, h2, Nat.one_mul]
    try rw [Nat.one_mul]
    exact jI_bd _ _
theorem dF_two (a n : Int) (v q : Nat) : dF a (n * 2) (v + 1) q = dF a n v q * s2 a := by
  have hn : negS a (n * 2) = negS a n := by
    unfold negS
    by_cases c : n < 0
    · by_cases c2 : a < 0
      · rw [if_pos ⟨by omega, c2⟩, if_pos ⟨c, c2⟩]
      · rw [if_neg (fun z => c2 z.2), if_neg (fun z => c2 z.2)]
    · rw [if_neg (by omega), if_neg (by omega)]
  unfold dF
  rw [hn]
  by_cases ha : a % 2 = 0
  · rw [if_pos ⟨by omega, ha⟩]
    unfold s2
    rw [if_pos ha, Int.mul_zero]
  · rw [if_neg (fun z => ha z.2), if_neg (fun z => ha z.2)]
    have ht : twoS a (v + 1) = twoS a v * s2 a := by
      unfold twoS s2
      rw [if_neg ha]
      by_cases c : a % 8 = 3 ∨ a % 8 = 5
      · rw [if_pos c]
        by_cases cv : v % 2 = 1
        · rw [if_neg (by omega), if_pos ⟨cv, c⟩]; rfl
        · rw [if_pos ⟨by omega, c⟩, if_neg (fun z => cv z.1)]; rfl
      · rw [if_neg c, if_neg (fun z => c z.2), if_neg (fun z => c z.2)]; rfl
    rw [ht]
    grind
theorem dF_neg {a n : Int} (v q : Nat) (h : 0 < n) : dF a (n * -1) v q = dF a n v q * (if a < 0 then -1 else 1) := by
  unfold dF
  by_cases ha : 0 < v ∧ a % 2 = 0
  · rw [if_pos ha, if_pos ha, Int.zero_mul]
  · rw [if_neg ha, if_neg ha]
    have e : negS a (n * -1) = negS a n * (if a < 0 then -1 else 1) := by
      unfold negS
      by_cases c : a < 0
      · rw [if_pos ⟨by omega, c⟩, if_neg (by omega), if_pos c]; rfl
      · rw [if_neg (fun z => c z.2), if_neg (fun z => c z.2), if_neg c]; rfl
    rw [e]
    grind
theorem dF_odd {a n : Int} (v q k : Nat) : dF a (n * ((2 * k + 1 : Nat) : Int)) v (q * (2 * k + 1) + k) = dF a n v q * jI a (2 * k + 1) := by
  have e1 : 2 * (q * (2 * k + 1) + k) + 1 = (2 * q + 1) * (2 * k + 1) := by grind
  have hn : negS a (n * ((2 * k + 1 : Nat) : Int)) = negS a n := by
    unfold negS
    by_cases c : n < 0
    · have h1 : n * ((2 * k + 1 : Nat) : Int) < 0 := Int.mul_neg_of_neg_of_pos c (by omega)
      by_cases c2 : a < 0
      · rw [if_pos ⟨h1, c2⟩, if_pos ⟨c, c2⟩]
      · rw [if_neg (fun z => c2 z.2), if_neg (fun z => c2 z.2)]
    · have h1 : 0 ≤ n * ((2 * k + 1 : Nat) : Int) := Int.mul_nonneg (by omega) (by omega)
      rw [if_neg (by omega), if_neg (by omega)]
  unfold dF
  rw [hn, e1, jI_mul (by omega) (by omega)]
  split
  · rw [Int.zero_mul]
  · grind
end

section
variable {P : Program} {w : World} {K : PySem.W.Frag} {mg : Str → Option Value} {base : Heap} {CM CR aU a1 a2 : Addr}
theorem jI_one (a : Int) : jI a 1 = 1 := by
  unfold jI
  rw [show a % ((1 : Nat) : Int) = 0 from Int.emod_one a]
  show js 0 1 = 1
  rw [js_zero (by decide), if_pos rfl]
theorem dF_one (a : Int) : dF a 1 0 0 = 1 := by
  unfold dF
  rw [if_neg (by omega)]
  have e1 : twoS a 0 = 1 := by unfold twoS; rw [if_neg (by omega)]
  have e2 : negS a 1 = 1 := by unfold negS; rw [if_neg (by omega)]
  rw [e1, e2, show 2 * 0 + 1 = 1 from rfl, jI_one]
  rfl
theorem atI_vNs {ns : List Nat} {u : Int} (h0 : 0 ≤ u) (h1 : u < (ns.length : Int)) : ∃ p, p ∈ ns ∧ atI (vNs ns) u = some (V.int (p : Int)) := by
  obtain ⟨k, rfl⟩ : ∃ k : Nat, u = (k : Int) := ⟨u.toNat, by omega⟩
  have hk : k < ns.length := by omega
  refine ⟨ns[k], List.getElem_mem hk, atI_nat ?_⟩
  unfold vNs
  rw [List.getElem?_map, List.getElem?_eq_getElem hk]
  rfl
abbrev s__law_signs_hold : Stmt := top 18
theorem sc__law_signs_hold : FnScope ["state", "a", "primes", "n", "due", "turn", "p"] ["state"] (defScope s__law_signs_hold) := ⟨rfl, rfl, rfl, by decide +kernel, rfl, by decide +kernel, by decide +kernel⟩

def spSh : Sp := fun vs H Q _ => ∃ (st : Addr) (x y : Int), vs = [.ref st] ∧ H st = some (.lst [.int x, .int y]) ∧ ∀ (x' y' : Int) (H' : Hp), But st H H' → H' st = some (.lst [.int x', .int y']) → Q (.bl true) H'
theorem cal_sh (D : Dn K mg "_law_signs_hold" s__law_signs_hold ["state"]) (B : Bl mg) (c__law_number : Cal P w K mg base "_law_number" 2 ["state"] spNum) (c__law_take : Cal P w K mg base "_law_take" 1 ["state", "m"] spTake) (c__law_primes : Cal P w K mg base "_law_primes" 1 ["most"] spPr)
    (c__law_sign_at : Cal P w K mg base "_law_sign_at" 1 ["a", "p"] spSa) (c_kronecker : Cal P w K mg base "kronecker" 2 ["a", "n"] spKro) (c__law_plain : Cal P w K mg base "_law_plain" 2 ["value"] spInn) (c__law_whole : Cal P w K mg base "_law_whole" 1 ["value", "due"] spWh) :
    Cal P w K mg base "_law_signs_hold" 3 ["state"] spSh := by
  refine D.cal sc__law_signs_hold (fun vs H Q E h => ?_) (fun f cdv A outer s H vs Q E hr h => ?_)
  · obtain ⟨st, x, y, rfl, _⟩ := h
    rfl
  · obtain ⟨st, x, y, rfl, hst, q⟩ := h
    refine ⟨_, (pss_cons (ps_set (i := 1) sc__law_signs_hold.nd rfl (Or.inl rfl) (pe_cal c__law_number (hr.mono (by decide)) rfl (pa_cons (pv 0) pa_nil)))
  (pss_cons (ps_if (pt_cmpR op_eq (pe_cal c__law_take (hr.mono (by decide)) rfl (pa_cons (pv 0) (pa_cons pe_int pa_nil))) pe_int (nomark _)) (pss_one (ps_set (i := 1) sc__law_signs_hold.nd rfl (Or.inl rfl) (pe_op op_sub (pe_cal c__law_take (hr.mono (by decide)) rfl (pa_cons (pv 0) (pa_cons pe_int pa_nil))) pe_int))) pss_nil)
  (pss_cons (ps_set (i := 2) sc__law_signs_hold.nd rfl (Or.inl rfl) (pe_cal c__law_primes (hr.mono (by decide)) rfl (pa_cons pe_int pa_nil)))
  (pss_cons (ps_asg (pe_tup (pa_cons pe_int (pa_cons pe_int pa_nil))) (pg_tup rfl (pgs_cons (pg_name (i := 3) sc__law_signs_hold.nd rfl (Or.inl rfl)) (pgs_cons (pg_name (i := 4) sc__law_signs_hold.nd rfl (Or.inl rfl)) pgs_nil))))
  (pss_cons (ps_for PassesOwn.never rfl (pi_range1 rfl B.range (pa_cons (pe_cal c__law_take (hr.mono (by decide)) rfl (pa_cons (pv 0) (pa_cons pe_int pa_nil))) pa_nil)) (pg_name (i := 5) sc__law_signs_hold.nd rfl (Or.inl rfl)) (pss_cons (ps_set (i := 6) sc__law_signs_hold.nd rfl (Or.inl rfl) (pe_ix ix_list (pe_lst (pa_cons pe_int (pa_cons (pe_un un_neg pe_int) (pa_cons (pe_ix ix_list (pv 2) (pe_cal c__law_take (hr.mono (by decide)) rfl (pa_cons (pv 0) (pa_cons (pe_callB cr_lenS rfl B.len (by decide +kernel) (pa_cons (pv 2) pa_nil)) pa_nil))) (fun _ _ => rfl)) (pa_cons (pe_ix ix_list (pv 2) (pe_op op_add pe_int (pe_cal c__law_take (hr.mono (by decide)) rfl (pa_cons (pv 0) (pa_cons pe_int pa_nil)))) (fun _ _ => rfl)) pa_nil))))) (pe_cal c__law_take (hr.mono (by decide)) rfl (pa_cons (pv 0) (pa_cons pe_int pa_nil))) (fun _ _ => rfl)))
  (pss_one (ps_if (PW.pt (pw_or (pt_cmpR op_ne (pv 6) (pe_un un_neg pe_int) (nomark _)) (pw_or1 (pt_cmpR op_gt (pv 3) pe_int (nomark _))))) (pss_one (ps_par (i := 3) (j := 4) rfl sc__law_signs_hold.nd rfl rfl (by decide) rfl rfl (pa_cons (pe_op op_mulI (pv 3) (pv 6)) (pa_cons (pe_op op_mulI (pv 4) (pe_cal c__law_sign_at (hr.mono (by decide)) rfl (pa_cons (pv 1) (pa_cons (pv 6) pa_nil)))) pa_nil)) (by rfl))) pss_nil))))
  (pss_cons (ps_if (pt_not (pt_val (pe_cal c__law_whole (hr.mono (by decide)) rfl (pa_cons (pe_cal c__law_plain (hr.mono (by decide)) rfl (pa_cons (pe_cal c_kronecker (hr.mono (by decide)) rfl (pa_cons (pv 1) (pa_cons (pv 3) pa_nil))) pa_nil)) (pa_cons (pv 4) pa_nil))))) (pss_one (ps_ret pe_bl)) pss_nil)
  (pss_one (ps_ret (pe_and (pe_cal c__law_whole (hr.mono (by decide)) rfl (pa_cons (pe_cal c__law_plain (hr.mono (by decide)) rfl (pa_cons (pe_cal c_kronecker (hr.mono (by decide)) rfl (pa_cons (pv 1) (pa_cons pe_int pa_nil))) pa_nil)) (pa_cons (pe_callTy call_int1 rfl B.int boot_int (pa_cons (pe_cmpR op_eq (pe_callB call_abs rfl B.abs (by decide +kernel) (pa_cons (pv 1) pa_nil)) pe_int (nomark _)) pa_nil)) pa_nil))) (pe_one (pe_cal c__law_whole (hr.mono (by decide)) rfl (pa_cons (pe_cal c__law_plain (hr.mono (by decide)) rfl (pa_cons (pe_cal c_kronecker (hr.mono (by decide)) rfl (pa_cons (pv 1) (pa_cons pe_int pa_nil))) pa_nil)) (pa_cons pe_int pa_nil))))))))))))), ?_⟩
    rw [CB.rd_seq]
    walk_at "rs"
    refine ⟨st, x, y, rfl, hst, fun a0 x1 y1 H1 bt1 h1 ha0 => ?_⟩
    have hT : T40 < 2 ^ 140 := by decide +kernel
    show tSeq _ _ _ _ _
    refine seq_cut (fun σ H2 => ∃ (a x y : Int), σ = [some (.ref st), some (.int a), none, none, none, none, none] ∧ H2 st = some (.lst [.int x, .int y]) ∧ But st H H2) (fun R hR => ?_) ?_
    · walk_at "rs"
      refine ⟨st, x1, y1, 4, rfl, h1, by decide, by decide +kernel, fun v x5 y5 v0 v1 => ⟨rfl, ?_⟩⟩
      by_cases c : v = 0
      · rw [if_pos (by rw [c])]
        refine ⟨st, x5, y5, 41, rfl, upd_same, by decide, by decide +kernel, fun u x6 y6 u0 u1 => ⟨u, rfl, hR _ _ ⟨u - 20, x6, y6, rfl, upd_same, bt1.upd.upd⟩⟩⟩
      · rw [if_neg (fun z => c (by injection z))]
        exact hR _ _ ⟨a0, x5, y5, rfl, upd_same, bt1.upd⟩
    rintro σ H2 ⟨a, x2, y2, rfl, h2, bt2⟩
    rw [CB.rd_seq]
    walk_at "rs"
    refine ⟨rfl, fun lp H3 s3 n3 hlp => ?_⟩
    have h3 := s3 _ _ h2
    have sl : st ≠ lp := ne_of_none h2 n3
    show tSeq _ _ _ _ _
    rw [CB.rd_seq]
    walk_at "rs"
    refine ⟨by decide, fun tp ntp => ⟨_, SqT.of upd_same, rfl, _, _, rfl, _, _, rfl, rfl, ?_⟩⟩
    have s33 := same_upd (o := HO.tup [V.int 1, V.int 1]) ntp
    have hlp := s33 _ _ hlp
    have h3 := s33 _ _ h3
    have s3 := s3.trans s33
    generalize upd H3 tp (.tup [V.int 1, V.int 1]) = H3 at *
    rw [CB.rd_seq]
    walk_at "rs"
    refine ⟨st, x2, y2, 6, rfl, h3, by decide, by decide +kernel, fun tn x4 y4 t0 t1 => ?_⟩
    refine ⟨tn, rfl, by omega, by omega, ?_⟩
    have bt4 : But st H (upd H3 st (.lst [.int x4, .int y4])) := (bt2.same s3).upd
    have hl4 : (upd H3 st (.lst [.int x4, .int y4])) lp = some (.lst (vNs (2 :: PR))) := by rw [upd_ne sl.symm]; exact hlp
    have h4 : (upd H3 st (.lst [.int x4, .int y4])) st = some (.lst [.int x4, .int y4]) := upd_same
    generalize upd H3 st (.lst [.int x4, .int y4]) = H4 at *
    refine ForR.w (fun i σ H5 => ∃ (n : Int) (v q : Nat) (x y : Int) (s5 s6 : Option V), σ = [some (.ref st), some (.int a), some (.ref lp), some (.int n), some (.int (dF a n v q)), s5, s6] ∧ But st H H5 ∧ H5 st = some (.lst [.int x, .int y]) ∧ H5 lp = some (.lst (vNs (2 :: PR))) ∧ n.natAbs = 2 ^ v * (2 * q + 1) ∧ Sz (1 + 9 * i) n ∧ i ≤ 6)
      ⟨1, 0, 0, x4, y4, none, none, ?_, bt4, h4, hl4, rfl, by unfold Sz; decide, by decide⟩ ?_ ?_
    · rw [dF_one]
    · rintro i σ H5 hi ⟨n, v, qq, x5, y5, s5, s6, rfl, bt5, h5, hl5, en, zn, i6⟩ N hN
      walk_at "rs"
      rw [CB.rd_seq]
      walk_at "rs"
      have i450 : 1 + 9 * i ≤ 450000 := by clear hN; omega
      have i7 : i + 1 ≤ 6 := by clear hN; omega
      have L46 : ((2 :: PR).length : Int) = 46 := by decide
      refine ⟨(2 :: PR).length, .inl ⟨_, SqL.of hl5, by unfold vNs; rw [List.length_map]⟩, ?_⟩
      rw [show (((2 :: PR).length : Nat) : Int) = 46 from L46]
      refine ⟨st, x5, y5, 46, rfl, h5, by decide, by decide +kernel, fun u x6 y6 u0 u1 => ?_⟩
      have sp : st ≠ lp := ne_of h5 hl5 (by intro z; cases z) |> fun z => by
        intro e
        subst e
        rw [h5] at hl5
        cases hl5
      obtain ⟨p1, hp1, e1⟩ := atI_vNs (ns := 2 :: PR) u0 (by rw [L46]; exact u1)
      refine ⟨_, u, rfl, SqL.of (by rw [upd_ne sp.symm]; exact hl5), _, e1, st, x6, y6, 5, rfl, upd_same, by decide, by decide +kernel, fun u2 x7 y7 u20 u21 => ?_⟩
      obtain ⟨p2, hp2, e2⟩ := atI_vNs (ns := 2 :: PR) (u := 1 + u2) (by omega) (by rw [L46]; omega)
      have bt7 := (bt5.upd (o := .lst [.int x6, .int y6])).upd (o := .lst [.int x7, .int y7])
      have h7 : (upd (upd H5 st (.lst [.int x6, .int y6])) st (.lst [.int x7, .int y7])) st = some (.lst [.int x7, .int y7]) := upd_same
      have hl7 : (upd (upd H5 st (.lst [.int x6, .int y6])) st (.lst [.int x7, .int y7])) lp = some (.lst (vNs (2 :: PR))) := by
        rw [upd_ne sp.symm, upd_ne sp.symm]
        exact hl5
      generalize (upd (upd H5 st (.lst [.int x6, .int y6])) st (.lst [.int x7, .int y7])) = H7 at *
      refine ⟨u2, rfl, _, SqL.of hl7, _, e2, by decide, fun l nl => ?_⟩
      have sl2 : st ≠ l := ne_of_none h7 nl
      refine ⟨st, x7, y7, 4, rfl, same_upd nl _ _ h7, by decide, by decide +kernel, fun u3 x8 y8 u30 u31 => ?_⟩
      have pick : ∃ p : Int, atI [V.int 2, V.int (-1), V.int (p1 : Int), V.int (p2 : Int)] u3 = some (.int p) ∧ (p = -1 ∨ p = 2 ∨ ∃ p' : Nat, p' ∈ PR ∧ p = (p' : Int)) := by
        have mem : ∀ z : Nat, z ∈ 2 :: PR → ((z : Int) = -1 ∨ (z : Int) = 2 ∨ ∃ p' : Nat, p' ∈ PR ∧ (z : Int) = (p' : Int)) := fun z hz => by
          rcases List.mem_cons.mp hz with h | h
          · exact .inr (.inl (by omega))
          · exact .inr (.inr ⟨z, h, rfl⟩)
        have c : u3 = 0 ∨ u3 = 1 ∨ u3 = 2 ∨ u3 = 3 := by omega
        rcases c with rfl | rfl | rfl | rfl
        · exact ⟨_, rfl, .inr (.inl rfl)⟩
        · exact ⟨_, rfl, .inl rfl⟩
        · exact ⟨_, rfl, mem _ hp1⟩
        · exact ⟨_, rfl, mem _ hp2⟩
      obtain ⟨p, ep, hp⟩ := pick
      have bt9 := (bt7.same (same_upd (o := .lst [V.int 2, V.int (-1), V.int (p1 : Int), V.int (p2 : Int)]) nl)).upd (o := .lst [.int x8, .int y8])
      have h9 : (upd (upd H7 l (.lst [V.int 2, V.int (-1), V.int (p1 : Int), V.int (p2 : Int)])) st (.lst [.int x8, .int y8])) st = some (.lst [.int x8, .int y8]) := upd_same
      have hl9 : (upd (upd H7 l (.lst [V.int 2, V.int (-1), V.int (p1 : Int), V.int (p2 : Int)])) st (.lst [.int x8, .int y8])) lp = some (.lst (vNs (2 :: PR))) := by
        rw [upd_ne sp.symm]
        exact same_upd nl _ _ hl7
      have hll : (upd (upd H7 l (.lst [V.int 2, V.int (-1), V.int (p1 : Int), V.int (p2 : Int)])) st (.lst [.int x8, .int y8])) l = some (.lst [V.int 2, V.int (-1), V.int (p1 : Int), V.int (p2 : Int)]) := by
        rw [upd_ne sl2.symm, upd_same]
      generalize (upd (upd H7 l (.lst [V.int 2, V.int (-1), V.int (p1 : Int), V.int (p2 : Int)])) st (.lst [.int x8, .int y8])) = H9 at *
      refine ⟨_, u3, rfl, SqL.of hll, .int p, ep, rfl, ?_⟩
      have zp : Sz 8 p := by
        have b : ∀ x ∈ PR, x < 200 := by decide
        rcases hp with rfl | rfl | ⟨p', hP, rfl⟩
        · unfold Sz; decide
        · unfold Sz; decide
        · have := b p' hP
          unfold Sz
          omega
      have zn2 : Sz (1 + 9 * (i + 1)) (n * p) := (zn.mul zp).le (by omega)
      have upd1 : (p ≠ -1 ∨ 0 < n) → ∃ v' q', dF a n v qq * sAt a p = dF a (n * p) v' q' ∧ (n * p).natAbs = 2 ^ v' * (2 * q' + 1) := fun hc => by
        rcases hp with rfl | rfl | ⟨p', hP, rfl⟩
        · have hn : 0 < n := hc.resolve_left (fun z => z rfl)
          refine ⟨v, qq, ?_, by rw [← en]; omega⟩
          rw [dF_neg v qq hn]
          rfl
        · refine ⟨v + 1, qq, ?_, ?_⟩
          · rw [dF_two]
            rfl
          · rw [Int.natAbs_mul, en, Nat.pow_succ]
            show 2 ^ v * (2 * qq + 1) * 2 = _
            grind
        · have b : ∀ x ∈ PR, x % 2 = 1 ∧ 2 < x := by decide
          obtain ⟨b1, b2⟩ := b p' hP
          obtain ⟨k, rfl⟩ : ∃ k, p' = 2 * k + 1 := ⟨p' / 2, by omega⟩
          refine ⟨v, qq * (2 * k + 1) + k, ?_, ?_⟩
          · rw [dF_odd]
            unfold sAt
            rw [if_neg (by omega), if_neg (by omega), Int.toNat_natCast]
          · rw [Int.natAbs_mul, en, Int.natAbs_natCast]
            grind
      have go : (p ≠ -1 ∨ 0 < n) → ∃ x, V.int p = V.int x ∧ IntMulOk n x ∧ spSa [V.int a, V.int p] H9 (fun y H2 => ∃ x_7, y = V.int x_7 ∧ IntMulOk (dF a n v qq) x_7 ∧ N [some (V.ref st), some (V.int a), some (V.ref lp), some (V.int (n * x)), some (V.int (dF a n v qq * x_7)), some (V.int (0 + (i : Int))), some (V.int p)] H2) E0 := fun hc => by
        obtain ⟨v', q', f1, f2⟩ := upd1 hc
        refine ⟨p, rfl, zn.ok zp i450 (by decide), a, p, rfl, hp, fun H10 s10 => ⟨_, rfl, mulL ?_, ?_⟩⟩
        · have := dF_bd a n v qq
          omega
        · rw [f1]
          exact hN _ _ ⟨n * p, v', q', x8, y8, _, _, rfl, bt9.same s10, s10 _ _ h9, s10 _ _ hl9, f2, zn2, i7⟩
      by_cases c1 : p = -1
      · rw [if_pos (by rw [c1])]
        refine ite2 (fun c2 => go (.inr c2)) (fun c2 => ?_)
        exact hN _ _ ⟨n, v, qq, x8, y8, _, _, rfl, bt9, h9, hl9, en, zn.le (by omega), i7⟩
      · rw [if_neg (fun z => c1 (by injection z))]
        exact go (.inl c1)
    · rintro σ H5 ⟨n, v, qq, x5, y5, s5, s6, rfl, bt5, h5, hl5, en, zn, i6⟩
      have n0 : n ≠ 0 := fun z => by
        subst z
        have := Nat.two_pow_pos v
        have : 0 < 2 ^ v * (2 * qq + 1) := Nat.mul_pos this (by omega)
        rw [← en] at this
        exact absurd this (by decide)
      have par : n % 2 = 0 ↔ 0 < v := by
        rcases Nat.eq_zero_or_pos v with z | z
        · subst z
          rw [Nat.pow_zero, Nat.one_mul] at en
          omega
        · obtain ⟨k, rfl⟩ : ∃ k, v = k + 1 := ⟨v - 1, by omega⟩
          rw [Nat.pow_succ] at en
          have : 2 ^ k * 2 * (2 * qq + 1) = 2 * (2 ^ k * (2 * qq + 1)) := by grind
          omega
      have kr : ∀ {H : Hp} {Q : VK}, (∀ H', Same H H' → Q (.int (dF a n v qq)) H') → spKro [.int a, .int n] H Q E0 := fun {H Q} g => by
        refine ⟨a, n, rfl, .inr ⟨v, qq, en, ?_⟩⟩
        unfold dF at g
        by_cases c : a % 2 = 0 ∧ n % 2 = 0
        · rw [if_pos ⟨par.mp c.2, c.1⟩] at g
          exact .inl ⟨c.1, c.2, g _ (Same.refl _)⟩
        · rw [if_neg (fun z => c ⟨z.2, par.mpr z.1⟩)] at g
          exact .inr ⟨c, g⟩
      show tSeq _ _ _ _ _
      rw [CB.rd_seq]
      walk_at "rs"
      rw [CB.rd_seq]
      walk_at "rs"
      refine kr fun H6 s6' => ?_
      refine ⟨_, rfl, .inl ⟨_, rfl⟩, _, _, rfl, _, rfl, ?_⟩
      rw [decide_eq_true rfl, if_neg (by decide)]
      refine ⟨a, 0, rfl, .inl ⟨rfl, ?_⟩⟩
      refine ⟨_, rfl, .inl ⟨_, rfl⟩, _, _, rfl, true, ?_, ?_⟩
      · rw [iabs]
        by_cases c : (a.natAbs : Int) = 1
        · rw [if_pos c, decide_eq_true c]; rfl
        · rw [if_neg c, decide_eq_false c]; rfl
      rw [if_pos rfl]
      refine ⟨a, 1, rfl, .inr ⟨0, 0, rfl, .inr ⟨by omega, fun H7 s7 => ?_⟩⟩⟩
      have d1 := dF_one a
      unfold dF at d1
      rw [if_neg (by omega)] at d1
      rw [d1]
      refine ⟨_, rfl, .inl ⟨_, rfl⟩, _, _, rfl, ?_⟩
      exact q x5 y5 H7 (bt5.same (s6'.trans s7)) ((s6'.trans s7) _ _ h5)
end

/-! ### rests put together -/
theorem gcd_lcm_dvd (A B k : Nat) (hA : 0 < A) (hB : 0 < B) : Nat.gcd (Nat.lcm A B) k ∣ Nat.lcm (Nat.gcd A k) (Nat.gcd B k) := by
  have d1 : Nat.gcd (Nat.lcm A B) k ∣ Nat.lcm A B := Nat.gcd_dvd_left ..
  have d2 : Nat.gcd (Nat.lcm A B) k ∣ k := Nat.gcd_dvd_right ..
  generalize Nat.gcd (Nat.lcm A B) k = d at *
  have a1 : Nat.gcd A d ∣ Nat.gcd A k := Nat.dvd_gcd (Nat.gcd_dvd_left ..) (Nat.dvd_trans (Nat.gcd_dvd_right ..) d2)
  have b1 : Nat.gcd B d ∣ Nat.gcd B k := Nat.dvd_gcd (Nat.gcd_dvd_left ..) (Nat.dvd_trans (Nat.gcd_dvd_right ..) d2)
  refine Nat.dvd_trans ?_ (Nat.lcm_dvd (Nat.dvd_trans a1 (Nat.dvd_lcm_left ..)) (Nat.dvd_trans b1 (Nat.dvd_lcm_right ..)))
  -- d divides lcm (gcd A d) (gcd B d)
  have hg0 : 0 < Nat.gcd (Nat.gcd A d) (Nat.gcd B d) := Nat.gcd_pos_of_pos_left _ (Nat.gcd_pos_of_pos_left _ hA)
  have gA : Nat.gcd (Nat.gcd A d) (Nat.gcd B d) ∣ A := Nat.dvd_trans (Nat.gcd_dvd_left ..) (Nat.gcd_dvd_left ..)
  have gB : Nat.gcd (Nat.gcd A d) (Nat.gcd B d) ∣ B := Nat.dvd_trans (Nat.gcd_dvd_right ..) (Nat.gcd_dvd_left ..)
  have gd : Nat.gcd (Nat.gcd A d) (Nat.gcd B d) ∣ d := Nat.dvd_trans (Nat.gcd_dvd_left ..) (Nat.gcd_dvd_right ..)
  have key : d * Nat.gcd (Nat.gcd A d) (Nat.gcd B d) ∣ Nat.gcd A d * Nat.gcd B d := by
    have e : Nat.gcd A d * Nat.gcd B d = Nat.gcd (Nat.gcd (A * B) (d * B)) (Nat.gcd (A * d) (d * d)) := by
      rw [Nat.gcd_mul_right, Nat.gcd_mul_right, Nat.gcd_mul_left]
    rw [e]
    refine Nat.dvd_gcd (Nat.dvd_gcd ?_ ?_) (Nat.dvd_gcd ?_ ?_)
    · have h1 : d * Nat.gcd A B ∣ A * B := by
        rw [← Nat.gcd_mul_lcm A B, Nat.mul_comm d]
        exact Nat.mul_dvd_mul_left _ d1
      exact Nat.dvd_trans (Nat.mul_dvd_mul_left _ (Nat.dvd_gcd gA gB)) h1
    · exact Nat.mul_dvd_mul_left _ gB
    · rw [Nat.mul_comm A d]
      exact Nat.mul_dvd_mul_left _ gA
    · exact Nat.mul_dvd_mul_left _ gd
  rw [← Nat.gcd_mul_lcm (Nat.gcd A d) (Nat.gcd B d), Nat.mul_comm d] at key
  exact Nat.dvd_of_mul_dvd_mul_left hg0 key
/-- the rest, and the least common multiple -/
def lcmL : List (Int × Nat) → Nat
  | [] => 1
  | p :: ps => Nat.lcm (lcmL ps) p.2
theorem lcmL_pos : ∀ ps : List (Int × Nat), (∀ p ∈ ps, 0 < p.2) → 0 < lcmL ps
  | [], _ => by decide
  | p :: ps, h => Nat.lcm_pos (lcmL_pos ps fun q hq => h q (List.mem_cons_of_mem _ hq)) (h p List.mem_cons_self)
/-- two pairs fit -/
def Fit (p q : Int × Nat) : Prop := ((Nat.gcd p.2 q.2 : Nat) : Int) ∣ p.1 - q.1
theorem fit_all {x : Int} {k : Nat} : ∀ ps : List (Int × Nat), (∀ p ∈ ps, 0 < p.2) → (∀ p ∈ ps, ((Nat.gcd p.2 k : Nat) : Int) ∣ x) → ((Nat.gcd (lcmL ps) k : Nat) : Int) ∣ x
  | [], _, _ => by
    show ((Nat.gcd 1 k : Nat) : Int) ∣ x
    rw [Nat.gcd_one_left]
    exact Int.one_dvd x
  | p :: ps, hp, h => by
    have h1 := fit_all ps (fun q hq => hp q (List.mem_cons_of_mem _ hq)) (fun q hq => h q (List.mem_cons_of_mem _ hq))
    have h2 := h p List.mem_cons_self
    have l0 := lcmL_pos ps (fun q hq => hp q (List.mem_cons_of_mem _ hq))
    have g := gcd_lcm_dvd (lcmL ps) p.2 k l0 (hp p List.mem_cons_self)
    have h3 : Nat.lcm (Nat.gcd (lcmL ps) k) (Nat.gcd p.2 k) ∣ x.natAbs := Nat.lcm_dvd (show Nat.gcd (lcmL ps) k ∣ x.natAbs from Int.natAbs_dvd_natAbs.mpr h1) (show Nat.gcd p.2 k ∣ x.natAbs from Int.natAbs_dvd_natAbs.mpr h2)
    have h4 : ((Nat.gcd (lcmL (p :: ps)) k : Nat) : Int).natAbs ∣ x.natAbs := Nat.dvd_trans g h3
    exact Int.natAbs_dvd_natAbs.mp h4
/-- one pair more -/
theorem put {s r u v : Int} {m k : Nat} (hm : 0 < m) (hk : 0 < k) (hs : 0 ≤ s ∧ s < m) (e : u * (m : Int) + v * (k : Int) = ((Nat.gcd m k : Nat) : Int)) (hd : ((Nat.gcd m k : Nat) : Int) ∣ r - s) :
    (0 ≤ s + (m : Int) * (((r - s) / ((Nat.gcd m k : Nat) : Int) * u) % ((k / Nat.gcd m k : Nat) : Int)) ∧ s + (m : Int) * (((r - s) / ((Nat.gcd m k : Nat) : Int) * u) % ((k / Nat.gcd m k : Nat) : Int)) < ((m * (k / Nat.gcd m k) : Nat) : Int)) ∧
    (k : Int) ∣ s + (m : Int) * (((r - s) / ((Nat.gcd m k : Nat) : Int) * u) % ((k / Nat.gcd m k : Nat) : Int)) - r := by
  have hg : 0 < Nat.gcd m k := Nat.gcd_pos_of_pos_left _ hm
  obtain ⟨m', em⟩ := Nat.gcd_dvd_left m k
  obtain ⟨k', ek⟩ := Nat.gcd_dvd_right m k
  obtain ⟨c, ec⟩ := hd
  generalize Nat.gcd m k = g at *
  have kq : k / g = k' := by rw [ek, Nat.mul_div_cancel_left _ hg]
  have rq : (r - s) / (g : Int) = c := by rw [ec, Int.mul_ediv_cancel_left _ (by omega)]
  have k0 : 0 < k' := by
    rcases Nat.eq_zero_or_pos k' with z | z
    · rw [z, Nat.mul_zero] at ek; omega
    · exact z
  rw [kq, rq]
  have t0 := Int.emod_nonneg (c * u) (show ((k' : Nat) : Int) ≠ 0 by omega)
  have t1 := Int.emod_lt_of_pos (c * u) (show (0 : Int) < ((k' : Nat) : Int) by omega)
  have te := Int.emod_add_mul_ediv (c * u) ((k' : Nat) : Int)
  generalize (c * u) % ((k' : Nat) : Int) = t at *
  generalize (c * u) / ((k' : Nat) : Int) = t' at *
  refine ⟨⟨?_, ?_⟩, ?_⟩
  · have := Int.mul_nonneg (show (0 : Int) ≤ (m : Int) by omega) t0
    omega
  · have h1 : (m : Int) * t ≤ (m : Int) * ((k' : Int) - 1) := Int.mul_le_mul_of_nonneg_left (by omega) (by omega)
    rw [Int.natCast_mul]
    rw [Int.mul_sub, Int.mul_one] at h1
    omega
  · have em' : (m : Int) = (g : Int) * (m' : Int) := by rw [em, Int.natCast_mul]
    have ek' : (k : Int) = (g : Int) * (k' : Int) := by rw [ek, Int.natCast_mul]
    have hr : r = s + (g : Int) * c := by omega
    refine ⟨-((m' : Int) * t') - c * v, ?_⟩
    have et : t = c * u - (k' : Int) * t' := by omega
    have e2 : (m : Int) * (c * u) = c * (g : Int) - c * v * (k : Int) := by
      have : c * (u * (m : Int) + v * (k : Int)) = c * (g : Int) := by rw [e]
      grind
    have e3 : (m : Int) * ((k' : Int) * t') = (k : Int) * ((m' : Int) * t') := by
      rw [em', ek']
      grind
    rw [hr, et, Int.mul_sub, e2, e3]
    grind

section
variable {P : Program} {w : World} {K : PySem.W.Frag} {mg : Str → Option Value} {base : Heap} {CM CR aU a1 a2 : Addr}
/-- pairs on the heap -/
def PA (H : Hp) : List V → List (Int × Nat) → Prop
  | [], [] => True
  | x :: xs, p :: ps => (∃ t, x = .ref t ∧ H t = some (.tup [.int p.1, .int (p.2 : Int)])) ∧ PA H xs ps
  | _, _ => False
theorem PA.same {H H' : Hp} (s : Same H H') : ∀ {xs : List V} {ps : List (Int × Nat)}, PA H xs ps → PA H' xs ps
  | [], [], _ => trivial
  | _ :: _, _ :: _, ⟨⟨t, e, h⟩, r⟩ => ⟨⟨t, e, s _ _ h⟩, PA.same s r⟩
  | [], _ :: _, h => h.elim
  | _ :: _, [], h => h.elim
theorem PA.len {H : Hp} : ∀ {xs : List V} {ps : List (Int × Nat)}, PA H xs ps → xs.length = ps.length
  | [], [], _ => rfl
  | _ :: _, _ :: _, ⟨_, r⟩ => by rw [List.length_cons, List.length_cons, PA.len r]
  | [], _ :: _, h => h.elim
  | _ :: _, [], h => h.elim
theorem PA.get {H : Hp} : ∀ {xs : List V} {ps : List (Int × Nat)} {i : Nat} {x : V}, PA H xs ps → xs[i]? = some x → ∃ p t, ps[i]? = some p ∧ x = .ref t ∧ H t = some (.tup [.int p.1, .int (p.2 : Int)])
  | _ :: _, p :: _, 0, _, ⟨⟨t, e, h⟩, _⟩, hx => by
    cases hx
    exact ⟨p, t, rfl, e, h⟩
  | _ :: _, _ :: _, i + 1, _, ⟨_, r⟩, hx => by
    rw [List.getElem?_cons_succ] at hx ⊢
    exact PA.get r hx
  | [], [], _, _, _, hx => by simp at hx
  | [], _ :: _, _, _, h, _ => h.elim
  | _ :: _, [], _, _, h, _ => h.elim
def AllFit (ps : List (Int × Nat)) : Prop := ∀ (i j : Nat) (p q : Int × Nat), j < i → ps[i]? = some p → ps[j]? = some q → Fit p q
def Sol (ps : List (Int × Nat)) (s : Int) : Prop := ∀ p ∈ ps, (p.2 : Int) ∣ s - p.1
def Mn (ps : List (Int × Nat)) : Nat := lcmL ps.reverse
theorem Mn_succ (ps : List (Int × Nat)) (p : Int × Nat) : Mn (ps ++ [p]) = Nat.lcm (Mn ps) p.2 := by
  unfold Mn
  rw [List.reverse_append]
  rfl
theorem Mn_pos {ps : List (Int × Nat)} (h : ∀ p ∈ ps, 0 < p.2) : 0 < Mn ps := lcmL_pos _ fun p hp => h p (List.mem_reverse.mp hp)
theorem lcm_div {m k : Nat} (hm : 0 < m) : m * (k / Nat.gcd m k) = Nat.lcm m k := by
  have hg : 0 < Nat.gcd m k := Nat.gcd_pos_of_pos_left _ hm
  unfold Nat.lcm
  obtain ⟨k', ek⟩ := Nat.gcd_dvd_right m k
  rw [Nat.mul_div_assoc _ (Nat.gcd_dvd_right ..)]
def spJo (K : PySem.W.Frag) : Sp := fun vs H Q _ => ∃ (a : Addr) (xs : List V) (ps : List (Int × Nat)), vs = [.ref a] ∧ (SqL K H a xs ∨ SqT K H a xs) ∧ PA H xs ps ∧ ps.length ≤ 4 ∧ (∀ p ∈ ps, 0 < p.2 ∧ p.2 < 2 ^ 70 ∧ Sz 200 p.1) ∧
  (¬ AllFit ps → ∀ H', Same H H' → Q .non H') ∧
  (AllFit ps → ∀ (r : Addr) (s : Int) (H' : Hp), Same H H' → H r = none → H' r = some (.tup [.int s, .int ((Mn ps : Nat) : Int)]) → 0 ≤ s → s < ((Mn ps : Nat) : Int) → Sol ps s → Q (.ref r) H')
theorem sqL_same {H H' : Hp} {a : Addr} {xs : List V} (s : Same H H') (h : SqL K H a xs) : SqL K H' a xs := by
  rcases h with (h | ⟨o, h⟩) | h
  · exact .inl (.inl (s _ _ h))
  · exact .inl (.inr ⟨o, s _ _ h⟩)
  · exact .inr h
theorem mem_lcm {p : Int × Nat} : ∀ {ps : List (Int × Nat)}, p ∈ ps → p.2 ∣ lcmL ps
  | q :: ps, h => by
    rcases List.mem_cons.mp h with h | h
    · rw [h]; exact Nat.dvd_lcm_right ..
    · exact Nat.dvd_trans (mem_lcm h) (Nat.dvd_lcm_left ..)
theorem mem_Mn {p : Int × Nat} {ps : List (Int × Nat)} (h : p ∈ ps) : p.2 ∣ Mn ps := mem_lcm (List.mem_reverse.mpr h)
theorem fit_snoc {ps : List (Int × Nat)} {p : Int × Nat} {s : Int} (h : AllFit ps) (hs : Sol ps s) (hd : ((Nat.gcd (Mn ps) p.2 : Nat) : Int) ∣ p.1 - s) (hm : ∀ z ∈ ps, z.2 ∣ Mn ps) : AllFit (ps ++ [p]) := by
  intro i j x y hji hx hy
  have hj : j < ps.length := by
    have := (List.getElem?_eq_some_iff.mp hx).1
    rw [List.length_append] at this
    have : i < ps.length + 1 := this
    omega
  rw [List.getElem?_append_left hj] at hy
  rcases Nat.lt_or_ge i ps.length with z | z
  · rw [List.getElem?_append_left z] at hx
    exact h i j x y hji hx hy
  · have e : x = p := by
      rw [List.getElem?_append_right z] at hx
      have hi := (List.getElem?_eq_some_iff.mp hx).1
      have i0 : i - ps.length = 0 := by
        have : i - ps.length < 1 := hi
        omega
      rw [i0] at hx
      exact (Option.some.inj hx).symm
    subst e
    have ym := List.mem_of_getElem? hy
    unfold Fit
    have d1 : ((Nat.gcd x.2 y.2 : Nat) : Int) ∣ x.1 - s := Int.dvd_trans (Int.ofNat_dvd.mpr (Nat.dvd_gcd (Nat.dvd_trans (Nat.gcd_dvd_right ..) (hm y ym)) (Nat.gcd_dvd_left ..))) hd
    have d2 : ((Nat.gcd x.2 y.2 : Nat) : Int) ∣ s - y.1 := Int.dvd_trans (Int.ofNat_dvd.mpr (Nat.gcd_dvd_right ..)) (hs y ym)
    have := Int.dvd_add d1 d2
    rw [show x.1 - s + (s - y.1) = x.1 - y.1 by omega] at this
    exact this
abbrev s_joined : Stmt := top 6
theorem sc_joined : FnScope ["pairs", "s", "m", "r", "k", "g", "u", "_"] ["pairs"] (defScope s_joined) := ⟨rfl, rfl, rfl, by decide +kernel, rfl, by decide +kernel, by decide +kernel⟩

theorem cal_jo (D : Dn K mg "joined" s_joined ["pairs"]) (B : Bl mg) (c_combination : Cal P w K mg base "combination" 1 ["a", "b"] spComb) : Cal P w K mg base "joined" 2 ["pairs"] (spJo K) := by
  refine D.cal sc_joined (fun vs H Q E h => ?_) (fun f cdv A outer s H vs Q E hr h => ?_)
  · obtain ⟨a, xs, ps, rfl, _⟩ := h
    rfl
  · obtain ⟨a, xs, ps, rfl, hs, hpa, hl, hps, qn, qy⟩ := h
    have hlen := hpa.len
    rcases hs with hs | hs
    · refine ⟨_, (pss_cons (ps_asg (pe_tup (pa_cons pe_int (pa_cons pe_int pa_nil))) (pg_tup rfl (pgs_cons (pg_name (i := 1) sc_joined.nd rfl (Or.inl rfl)) (pgs_cons (pg_name (i := 2) sc_joined.nd rfl (Or.inl rfl)) pgs_nil))))
  (pss_cons (ps_for PassesOwn.never rfl (pi_list (pv 0)) (pg_tup rfl (pgs_cons (pg_name (i := 3) sc_joined.nd rfl (Or.inl rfl)) (pgs_cons (pg_name (i := 4) sc_joined.nd rfl (Or.inl rfl)) pgs_nil))) (pss_cons (ps_asg (pe_cal c_combination (hr.mono (by decide)) rfl (pa_cons (pv 2) (pa_cons (pv 4) pa_nil))) (pg_tup rfl (pgs_cons (pg_name (i := 5) sc_joined.nd rfl (Or.inl rfl)) (pgs_cons (pg_name (i := 6) sc_joined.nd rfl (Or.inl rfl)) (pgs_cons (pg_name (i := 7) sc_joined.nd rfl (Or.inl rfl)) pgs_nil)))))
  (pss_cons (ps_if (pt_truth (pe_op op_mod (pe_op op_sub (pv 3) (pv 1)) (pv 5)) (by intro _; rfl)) (pss_one (ps_ret pe_non)) pss_nil)
  (pss_cons (ps_aug (i := 1) sc_joined.nd rfl (Or.inl rfl) (pe_op op_mulI (pv 2) (pe_op op_mod (pe_op op_mulI (pe_op op_fdivW (pe_op op_sub (pv 3) (pv 1)) (pv 5)) (pv 6)) (pe_op op_fdivW (pv 4) (pv 5)))) ip_add)
  (pss_one (ps_aug (i := 2) sc_joined.nd rfl (Or.inl rfl) (pe_op op_fdivW (pv 4) (pv 5)) iop_mulI))))))
  (pss_one (ps_ret (pe_tup (pa_cons (pv 1) (pa_cons (pv 2) pa_nil))))))), ?_⟩
      rw [CB.rd_seq]
      walk_at "rs"
      refine ⟨by decide, fun tp ntp => ⟨_, SqT.of upd_same, rfl, _, _, rfl, _, _, rfl, rfl, ?_⟩⟩
      have s0 := same_upd (o := HO.tup [V.int 0, V.int 1]) ntp
      generalize upd H tp (.tup [V.int 0, V.int 1]) = H0 at *
      rw [CB.rd_seq]
      walk_at "rs"
      refine ⟨⟨_, sqL_same s0 hs⟩, ForL.w (xs := xs) (fun i σ H2 => ∃ (s : Int) (m : Nat) (s3 s4 s5 s6 s7 : Option V), σ = [some (.ref a), some (.int s), some (.int (m : Int)), s3, s4, s5, s6, s7] ∧ Same H H2 ∧ m = Mn (ps.take i) ∧ 0 ≤ s ∧ s < (m : Int) ∧ Sol (ps.take i) s ∧ AllFit (ps.take i) ∧ Sz (1 + 70 * i) m ∧ i ≤ 4)
        ⟨0, 1, none, none, none, none, none, rfl, s0, rfl, by decide, by decide, (fun p hp => by simp at hp), (fun i j p q h1 h2 => by simp at h2), by unfold Sz; decide, by decide⟩ ?_ ?_ ?_⟩
      · rintro i σ H2 _ ⟨_, _, _, _, _, _, _, rfl, sm, _⟩
        exact sqL_same sm hs
      · rintro i x σ H2 hx ⟨s, m, s3, s4, s5, s6, s7, rfl, sm, em, h0, h1, hsol, hfit, zm, i4⟩ N hN
        obtain ⟨p, t, hp1, rfl, ht⟩ := (PA.same sm hpa).get hx
        have hi : i < ps.length := (List.getElem?_eq_some_iff.mp hp1).1
        have hmem : p ∈ ps := List.mem_of_getElem? hp1
        obtain ⟨k0, k70, zr⟩ := hps p hmem
        have htk : ps.take (i + 1) = ps.take i ++ [p] := by rw [List.take_add_one, hp1]; rfl
        have hpos : ∀ z ∈ ps.take i, 0 < z.2 := fun z hz => (hps z (List.mem_of_mem_take hz)).1
        have m0 : 0 < m := by rw [em]; exact Mn_pos hpos
        have zk : Sz 70 (p.2 : Int) := by unfold Sz; omega
        have i4' : 1 + 70 * i ≤ 281 := by omega
        walk_at "rs"
        refine ⟨_, SqT.of ht, rfl, _, _, rfl, _, _, rfl, rfl, ?_⟩
        rw [CB.rd_seq]
        walk_at "rs"
        refine ⟨(m : Int), (p.2 : Int), rfl, by omega, by omega, zm.le (by omega), zk.le (by decide), fun r u v H3 s3' n3 h3 e zu => ?_⟩
        have h3 : H3 r = some (.tup [.int ((Nat.gcd m p.2 : Nat) : Int), .int u, .int v]) := h3
        have e : u * (m : Int) + v * (p.2 : Int) = ((Nat.gcd m p.2 : Nat) : Int) := e
        refine ⟨r, rfl, _, SqT.of h3, rfl, _, _, rfl, _, _, rfl, _, _, rfl, rfl, ?_⟩
        have g0 : 0 < Nat.gcd m p.2 := Nat.gcd_pos_of_pos_left _ m0
        have gk : Nat.gcd m p.2 ≤ p.2 := Nat.le_of_dvd k0 (Nat.gcd_dvd_right ..)
        rw [CB.rd_seq]
        walk_at "rs"
        refine ⟨by omega, _, rfl, ?_⟩
        rw [nzI]
        by_cases c : (p.1 - s) % ((Nat.gcd m p.2 : Nat) : Int) = 0
        · rw [decide_eq_true c, if_neg (by decide)]
          have hd := Int.dvd_of_emod_eq_zero c
          have pt := put m0 k0 ⟨h0, h1⟩ e hd
          rw [CB.rd_seq]
          walk_at "rs"
          have kq : (p.2 : Int) / ((Nat.gcd m p.2 : Nat) : Int) = ((p.2 / Nat.gcd m p.2 : Nat) : Int) := rfl
          have kq0 : 0 < p.2 / Nat.gcd m p.2 := Nat.div_pos gk g0
          have kq1 : p.2 / Nat.gcd m p.2 ≤ p.2 := Nat.div_le_self ..
          have hL := lcm_div (k := p.2) m0
          have zs : Sz 281 s := natS (y := (m : Int)) (by omega) (zm.le i4')
          have zc : Sz 300 ((p.1 - s) / ((Nat.gcd m p.2 : Nat) : Int)) := by
            obtain ⟨cc, hcc⟩ := hd
            rw [hcc, Int.mul_ediv_cancel_left _ (by omega)]
            have z1 : Sz 300 (p.1 - s) := ((zr.le (by decide)).sub zs).le (by decide)
            rw [hcc] at z1
            unfold Sz at z1 ⊢
            rw [Int.natAbs_mul] at z1
            have : 1 * cc.natAbs ≤ ((Nat.gcd m p.2 : Nat) : Int).natAbs * cc.natAbs := Nat.mul_le_mul_right _ (by omega)
            omega
          have gd : CDivW (p.1 - s) ((Nat.gcd m p.2 : Nat) : Int) := ⟨by omega, Nat.lt_of_le_of_lt (log_lt (k := 70) (by show ((Nat.gcd m p.2 : Nat) : Int).natAbs < 2 ^ 71; omega)) (by decide)⟩
          have gd2 : CDivW (p.2 : Int) ((Nat.gcd m p.2 : Nat) : Int) := gd
          rw [kq]
          have t0 := Int.emod_nonneg ((p.1 - s) / ((Nat.gcd m p.2 : Nat) : Int) * u) (show ((p.2 / Nat.gcd m p.2 : Nat) : Int) ≠ 0 by omega)
          have t1 := Int.emod_lt_of_pos ((p.1 - s) / ((Nat.gcd m p.2 : Nat) : Int) * u) (show (0 : Int) < ((p.2 / Nat.gcd m p.2 : Nat) : Int) by omega)
          have zq : Sz 70 ((p.2 / Nat.gcd m p.2 : Nat) : Int) := by unfold Sz; omega
          have zt : Sz 70 ((p.1 - s) / ((Nat.gcd m p.2 : Nat) : Int) * u % ((p.2 / Nat.gcd m p.2 : Nat) : Int)) := natS (y := ((p.2 / Nat.gcd m p.2 : Nat) : Int)) (by omega) zq
          have zm2 : Sz 281 (m : Int) := zm.le i4'
          refine ⟨gd, zc.ok zu (by decide) (by decide), gd2, by omega, zm2.ok zt (by decide) (by decide), gd2, zm2.ok zq (by decide) (by decide), ?_⟩
          have em2 : (m : Int) * ((p.2 / Nat.gcd m p.2 : Nat) : Int) = ((m * (p.2 / Nat.gcd m p.2) : Nat) : Int) := (Int.natCast_mul _ _).symm
          rw [em2]
          have pm : (m : Int) ∣ (m : Int) * ((p.1 - s) / ((Nat.gcd m p.2 : Nat) : Int) * u % ((p.2 / Nat.gcd m p.2 : Nat) : Int)) := Int.dvd_mul_right ..
          generalize (m : Int) * ((p.1 - s) / ((Nat.gcd m p.2 : Nat) : Int) * u % ((p.2 / Nat.gcd m p.2 : Nat) : Int)) = tt at *
          refine hN _ _ ⟨s + tt, m * (p.2 / Nat.gcd m p.2), some (.int p.1), some (.int (p.2 : Int)), some (.int ((Nat.gcd m p.2 : Nat) : Int)), some (.int u), some (.int v), rfl, sm.trans s3', ?_, pt.1.1, pt.1.2, ?_, ?_, ?_, by omega⟩
          · rw [htk, Mn_succ, hL, em]
          · rw [htk]
            intro z hz
            rcases List.mem_append.mp hz with hz | hz
            · have d1 := hsol z hz
              have d2 : (z.2 : Int) ∣ (m : Int) := by
                rw [em]
                have : z.2 ∣ Mn (ps.take i) := by
                  unfold Mn
                  exact mem_lcm (List.mem_reverse.mpr hz)
                exact Int.ofNat_dvd.mpr this
              have := Int.dvd_add d1 (Int.dvd_trans d2 pm)
              rw [show s - z.1 + tt = s + tt - z.1 by omega] at this
              exact this
            · rw [List.mem_singleton.mp hz]
              exact pt.2
          · rw [htk]
            exact fit_snoc hfit hsol (by rw [← em]; exact hd) (fun z hz => mem_Mn hz)
          · have z3 := zm.mul zq
            rw [em2] at z3
            exact z3.le (by omega)
        · rw [decide_eq_false c, if_pos (show (!false) = true from rfl)]
          refine qn (fun hall => c ?_) _ (sm.trans s3')
          refine Int.emod_eq_zero_of_dvd ?_
          rw [em]
          refine fit_all (ps.take i).reverse (fun z hz => hpos z (List.mem_reverse.mp hz)) (fun z hz => ?_)
          have hz := List.mem_reverse.mp hz
          obtain ⟨j, hj⟩ := List.getElem?_of_mem hz
          have hji : j < i := by
            have := (List.getElem?_eq_some_iff.mp hj).1
            rw [List.length_take] at this
            omega
          rw [List.getElem?_take_of_lt hji] at hj
          have f := hall i j p z hji hp1 hj
          unfold Fit at f
          rw [Nat.gcd_comm] at f
          have f2 : ((Nat.gcd z.2 p.2 : Nat) : Int) ∣ s - z.1 := Int.dvd_trans (Int.ofNat_dvd.mpr (Nat.gcd_dvd_left ..)) (hsol z hz)
          have := Int.dvd_sub f f2
          rw [show p.1 - z.1 - (s - z.1) = p.1 - s by omega] at this
          exact this
      · rintro σ H2 ⟨s, m, s3, s4, s5, s6, s7, rfl, sm, em, h0, h1, hsol, hfit, zm, i4⟩
        rw [hpa.len, List.take_length] at em hsol hfit
        walk_at "rs"
        refine ⟨by decide, fun r nr => qy hfit r s _ (sm.trans (same_upd nr)) (sm.free nr) ?_ h0 (by rw [← em]; exact h1) hsol⟩
        rw [← em]
        exact upd_same
    · refine ⟨_, (pss_cons (ps_asg (pe_tup (pa_cons pe_int (pa_cons pe_int pa_nil))) (pg_tup rfl (pgs_cons (pg_name (i := 1) sc_joined.nd rfl (Or.inl rfl)) (pgs_cons (pg_name (i := 2) sc_joined.nd rfl (Or.inl rfl)) pgs_nil))))
  (pss_cons (ps_for PassesOwn.never rfl (pi_tup (pv 0)) (pg_tup rfl (pgs_cons (pg_name (i := 3) sc_joined.nd rfl (Or.inl rfl)) (pgs_cons (pg_name (i := 4) sc_joined.nd rfl (Or.inl rfl)) pgs_nil))) (pss_cons (ps_asg (pe_cal c_combination (hr.mono (by decide)) rfl (pa_cons (pv 2) (pa_cons (pv 4) pa_nil))) (pg_tup rfl (pgs_cons (pg_name (i := 5) sc_joined.nd rfl (Or.inl rfl)) (pgs_cons (pg_name (i := 6) sc_joined.nd rfl (Or.inl rfl)) (pgs_cons (pg_name (i := 7) sc_joined.nd rfl (Or.inl rfl)) pgs_nil)))))
  (pss_cons (ps_if (pt_truth (pe_op op_mod (pe_op op_sub (pv 3) (pv 1)) (pv 5)) (by intro _; rfl)) (pss_one (ps_ret pe_non)) pss_nil)
  (pss_cons (ps_aug (i := 1) sc_joined.nd rfl (Or.inl rfl) (pe_op op_mulI (pv 2) (pe_op op_mod (pe_op op_mulI (pe_op op_fdivW (pe_op op_sub (pv 3) (pv 1)) (pv 5)) (pv 6)) (pe_op op_fdivW (pv 4) (pv 5)))) ip_add)
  (pss_one (ps_aug (i := 2) sc_joined.nd rfl (Or.inl rfl) (pe_op op_fdivW (pv 4) (pv 5)) iop_mulI))))))
  (pss_one (ps_ret (pe_tup (pa_cons (pv 1) (pa_cons (pv 2) pa_nil))))))), ?_⟩
      rw [CB.rd_seq]
      walk_at "rs"
      refine ⟨by decide, fun tp ntp => ⟨_, SqT.of upd_same, rfl, _, _, rfl, _, _, rfl, rfl, ?_⟩⟩
      have s0 := same_upd (o := HO.tup [V.int 0, V.int 1]) ntp
      generalize upd H tp (.tup [V.int 0, V.int 1]) = H0 at *
      rw [CB.rd_seq]
      walk_at "rs"
      refine ⟨⟨_, sqT_same s0 hs⟩, ForT.w (xs := xs) (fun i σ H2 => ∃ (s : Int) (m : Nat) (s3 s4 s5 s6 s7 : Option V), σ = [some (.ref a), some (.int s), some (.int (m : Int)), s3, s4, s5, s6, s7] ∧ Same H H2 ∧ m = Mn (ps.take i) ∧ 0 ≤ s ∧ s < (m : Int) ∧ Sol (ps.take i) s ∧ AllFit (ps.take i) ∧ Sz (1 + 70 * i) m ∧ i ≤ 4)
        ⟨0, 1, none, none, none, none, none, rfl, s0, rfl, by decide, by decide, (fun p hp => by simp at hp), (fun i j p q h1 h2 => by simp at h2), by unfold Sz; decide, by decide⟩ ?_ ?_ ?_⟩
      · rintro i σ H2 _ ⟨_, _, _, _, _, _, _, rfl, sm, _⟩
        exact sqT_same sm hs
      · rintro i x σ H2 hx ⟨s, m, s3, s4, s5, s6, s7, rfl, sm, em, h0, h1, hsol, hfit, zm, i4⟩ N hN
        obtain ⟨p, t, hp1, rfl, ht⟩ := (PA.same sm hpa).get hx
        have hi : i < ps.length := (List.getElem?_eq_some_iff.mp hp1).1
        have hmem : p ∈ ps := List.mem_of_getElem? hp1
        obtain ⟨k0, k70, zr⟩ := hps p hmem
        have htk : ps.take (i + 1) = ps.take i ++ [p] := by rw [List.take_add_one, hp1]; rfl
        have hpos : ∀ z ∈ ps.take i, 0 < z.2 := fun z hz => (hps z (List.mem_of_mem_take hz)).1
        have m0 : 0 < m := by rw [em]; exact Mn_pos hpos
        have zk : Sz 70 (p.2 : Int) := by unfold Sz; omega
        have i4' : 1 + 70 * i ≤ 281 := by omega
        walk_at "rs"
        refine ⟨_, SqT.of ht, rfl, _, _, rfl, _, _, rfl, rfl, ?_⟩
        rw [CB.rd_seq]
        walk_at "rs"
        refine ⟨(m : Int), (p.2 : Int), rfl, by omega, by omega, zm.le (by omega), zk.le (by decide), fun r u v H3 s3' n3 h3 e zu => ?_⟩
        have h3 : H3 r = some (.tup [.int ((Nat.gcd m p.2 : Nat) : Int), .int u, .int v]) := h3
        have e : u * (m : Int) + v * (p.2 : Int) = ((Nat.gcd m p.2 : Nat) : Int) := e
        refine ⟨r, rfl, _, SqT.of h3, rfl, _, _, rfl, _, _, rfl, _, _, rfl, rfl, ?_⟩
        have g0 : 0 < Nat.gcd m p.2 := Nat.gcd_pos_of_pos_left _ m0
        have gk : Nat.gcd m p.2 ≤ p.2 := Nat.le_of_dvd k0 (Nat.gcd_dvd_right ..)
        rw [CB.rd_seq]
        walk_at "rs"
        refine ⟨by omega, _, rfl, ?_⟩
        rw [nzI]
        by_cases c : (p.1 - s) % ((Nat.gcd m p.2 : Nat) : Int) = 0
        · rw [decide_eq_true c, if_neg (by decide)]
          have hd := Int.dvd_of_emod_eq_zero c
          have pt := put m0 k0 ⟨h0, h1⟩ e hd
          rw [CB.rd_seq]
          walk_at "rs"
          have kq : (p.2 : Int) / ((Nat.gcd m p.2 : Nat) : Int) = ((p.2 / Nat.gcd m p.2 : Nat) : Int) := rfl
          have kq0 : 0 < p.2 / Nat.gcd m p.2 := Nat.div_pos gk g0
          have kq1 : p.2 / Nat.gcd m p.2 ≤ p.2 := Nat.div_le_self ..
          have hL := lcm_div (k := p.2) m0
          have zs : Sz 281 s := natS (y := (m : Int)) (by omega) (zm.le i4')
          have zc : Sz 300 ((p.1 - s) / ((Nat.gcd m p.2 : Nat) : Int)) := by
            obtain ⟨cc, hcc⟩ := hd
            rw [hcc, Int.mul_ediv_cancel_left _ (by omega)]
            have z1 : Sz 300 (p.1 - s) := ((zr.le (by decide)).sub zs).le (by decide)
            rw [hcc] at z1
            unfold Sz at z1 ⊢
            rw [Int.natAbs_mul] at z1
            have : 1 * cc.natAbs ≤ ((Nat.gcd m p.2 : Nat) : Int).natAbs * cc.natAbs := Nat.mul_le_mul_right _ (by omega)
            omega
          have gd : CDivW (p.1 - s) ((Nat.gcd m p.2 : Nat) : Int) := ⟨by omega, Nat.lt_of_le_of_lt (log_lt (k := 70) (by show ((Nat.gcd m p.2 : Nat) : Int).natAbs < 2 ^ 71; omega)) (by decide)⟩
          have gd2 : CDivW (p.2 : Int) ((Nat.gcd m p.2 : Nat) : Int) := gd
          rw [kq]
          have t0 := Int.emod_nonneg ((p.1 - s) / ((Nat.gcd m p.2 : Nat) : Int) * u) (show ((p.2 / Nat.gcd m p.2 : Nat) : Int) ≠ 0 by omega)
          have t1 := Int.emod_lt_of_pos ((p.1 - s) / ((Nat.gcd m p.2 : Nat) : Int) * u) (show (0 : Int) < ((p.2 / Nat.gcd m p.2 : Nat) : Int) by omega)
          have zq : Sz 70 ((p.2 / Nat.gcd m p.2 : Nat) : Int) := by unfold Sz; omega
          have zt : Sz 70 ((p.1 - s) / ((Nat.gcd m p.2 : Nat) : Int) * u % ((p.2 / Nat.gcd m p.2 : Nat) : Int)) := natS (y := ((p.2 / Nat.gcd m p.2 : Nat) : Int)) (by omega) zq
          have zm2 : Sz 281 (m : Int) := zm.le i4'
          refine ⟨gd, zc.ok zu (by decide) (by decide), gd2, by omega, zm2.ok zt (by decide) (by decide), gd2, zm2.ok zq (by decide) (by decide), ?_⟩
          have em2 : (m : Int) * ((p.2 / Nat.gcd m p.2 : Nat) : Int) = ((m * (p.2 / Nat.gcd m p.2) : Nat) : Int) := (Int.natCast_mul _ _).symm
          rw [em2]
          have pm : (m : Int) ∣ (m : Int) * ((p.1 - s) / ((Nat.gcd m p.2 : Nat) : Int) * u % ((p.2 / Nat.gcd m p.2 : Nat) : Int)) := Int.dvd_mul_right ..
          generalize (m : Int) * ((p.1 - s) / ((Nat.gcd m p.2 : Nat) : Int) * u % ((p.2 / Nat.gcd m p.2 : Nat) : Int)) = tt at *
          refine hN _ _ ⟨s + tt, m * (p.2 / Nat.gcd m p.2), some (.int p.1), some (.int (p.2 : Int)), some (.int ((Nat.gcd m p.2 : Nat) : Int)), some (.int u), some (.int v), rfl, sm.trans s3', ?_, pt.1.1, pt.1.2, ?_, ?_, ?_, by omega⟩
          · rw [htk, Mn_succ, hL, em]
          · rw [htk]
            intro z hz
            rcases List.mem_append.mp hz with hz | hz
            · have d1 := hsol z hz
              have d2 : (z.2 : Int) ∣ (m : Int) := by
                rw [em]
                have : z.2 ∣ Mn (ps.take i) := by
                  unfold Mn
                  exact mem_lcm (List.mem_reverse.mpr hz)
                exact Int.ofNat_dvd.mpr this
              have := Int.dvd_add d1 (Int.dvd_trans d2 pm)
              rw [show s - z.1 + tt = s + tt - z.1 by omega] at this
              exact this
            · rw [List.mem_singleton.mp hz]
              exact pt.2
          · rw [htk]
            exact fit_snoc hfit hsol (by rw [← em]; exact hd) (fun z hz => mem_Mn hz)
          · have z3 := zm.mul zq
            rw [em2] at z3
            exact z3.le (by omega)
        · rw [decide_eq_false c, if_pos (show (!false) = true from rfl)]
          refine qn (fun hall => c ?_) _ (sm.trans s3')
          refine Int.emod_eq_zero_of_dvd ?_
          rw [em]
          refine fit_all (ps.take i).reverse (fun z hz => hpos z (List.mem_reverse.mp hz)) (fun z hz => ?_)
          have hz := List.mem_reverse.mp hz
          obtain ⟨j, hj⟩ := List.getElem?_of_mem hz
          have hji : j < i := by
            have := (List.getElem?_eq_some_iff.mp hj).1
            rw [List.length_take] at this
            omega
          rw [List.getElem?_take_of_lt hji] at hj
          have f := hall i j p z hji hp1 hj
          unfold Fit at f
          rw [Nat.gcd_comm] at f
          have f2 : ((Nat.gcd z.2 p.2 : Nat) : Int) ∣ s - z.1 := Int.dvd_trans (Int.ofNat_dvd.mpr (Nat.gcd_dvd_left ..)) (hsol z hz)
          have := Int.dvd_sub f f2
          rw [show p.1 - z.1 - (s - z.1) = p.1 - s by omega] at this
          exact this
      · rintro σ H2 ⟨s, m, s3, s4, s5, s6, s7, rfl, sm, em, h0, h1, hsol, hfit, zm, i4⟩
        rw [hpa.len, List.take_length] at em hsol hfit
        walk_at "rs"
        refine ⟨by decide, fun r nr => qy hfit r s _ (sm.trans (same_upd nr)) (sm.free nr) ?_ h0 (by rw [← em]; exact h1) hsol⟩
        rw [← em]
        exact upd_same
end

section
variable {P : Program} {w : World} {K : PySem.W.Frag} {mg : Str → Option Value} {base : Heap} {CM CR aU a1 a2 : Addr}
theorem cal_innC (D : Dn K mg "_law_inner" s__law_inner ["value"]) (B : Bl mg) (c__law_inner : Cal P w K mg base "_law_inner" 1 ["value"] spInn) : Cal P w K mg base "_law_inner" 2 ["value"] (spPl K) := by
  refine D.cal sc__law_inner (fun vs H Q E h => ?_) (fun f cdv A outer s H vs Q E hr h => ?_)
  · obtain ⟨n, rfl, _⟩ := h
    rfl
  · obtain ⟨v, rfl, h⟩ := h
    refine ⟨_, (pss_cons (ps_if (pt_val (pe_callB call_isi rfl B.isinstance (by decide +kernel) (pa_cons (pv 0) (pa_cons (pe_bltn (v := .ty "tuple") rfl B.tuple boot_tuple rfl) pa_nil)))) (pss_one (ps_ret (pe_callTy cr_tupOf rfl B.tuple boot_tuple (pa_cons (pe_lc (own := [("item", 1)]) rfl sc__law_inner.nd (pi_tup (pv 0)) (blkOk_by (N := ["value", "item"]) (sc := defScope s__law_inner) (own := [("item", 1)]) (by decide +kernel)) (fun _ _ _ _ _ => (pg_name (i := 1) sc__law_inner.nd rfl (Or.inl rfl))) (fun _ _ _ _ _ => pts_nil) (fun _ _ _ _ _ => (pe_cal c__law_inner (hr.mono (by decide)) rfl (pa_cons (pv 1) pa_nil)))) pa_nil)))) pss_nil)
  (pss_cons (ps_if (PW.pt (pw_or (pt_cmpR op_isN (pv 0) pe_non (nomark _)) (pw_or (pt_val (pe_callB call_isi rfl B.isinstance (by decide +kernel) (pa_cons (pv 0) (pa_cons (pe_bltn (v := .ty "str") rfl B.str boot_str rfl) pa_nil)))) (pw_or1 (PW.pt (pw_and (pt_val (pe_callB call_isi rfl B.isinstance (by decide +kernel) (pa_cons (pv 0) (pa_cons (pe_bltn (v := .ty "int") rfl B.int boot_int rfl) pa_nil)))) (pw_and1 (pt_not (pt_val (pe_callB call_isi rfl B.isinstance (by decide +kernel) (pa_cons (pv 0) (pa_cons (pe_bltn (v := .ty "bool") rfl B.bool boot_bool rfl) pa_nil)))))))))))) (pss_one (ps_ret (pv 0))) pss_nil)
  (pss_one (ps_ret pe_str)))), ?_⟩
    walk_at "rd"
    rcases h with ⟨⟨n, rfl⟩ | rfl, q⟩ | ⟨r, ns, rfl, ht, hl, q⟩
    · refine isi_mk (.base (.int n)) (b := false) (by decide +kernel) ⟨false, rfl, ?_⟩
      rw [if_neg Bool.false_ne_true, if_neg (fun z => by cases z)]
      refine isi_mk (.base (.int n)) (b := false) (by decide +kernel) ⟨false, rfl, ?_⟩
      rw [if_neg Bool.false_ne_true]
      refine isi_mk (.base (.int n)) (b := true) (by decide +kernel) ⟨true, rfl, ?_⟩
      rw [if_pos rfl]
      refine isi_mk (.base (.int n)) (b := false) (by decide +kernel) ⟨false, rfl, ?_⟩
      rw [if_pos (by decide)]
      exact q
    · refine isi_mk (.base .non) (b := false) (by decide +kernel) ⟨false, rfl, ?_⟩
      rw [if_neg Bool.false_ne_true, if_pos rfl]
      exact q
    refine isi_mk (sqT_ty ht) (b := true) (by decide +kernel) ⟨true, rfl, ?_⟩
    rw [if_pos rfl]
    refine ⟨r, rfl, ⟨_, ht⟩, LcT.w (xs := ns.map V.int) (fun i D zs H3 => zs = (ns.take i).map V.int ∧ Same H H3 ∧ H3 D = some (.lst zs) ∧ H D = none) (fun D nD => ⟨rfl, same_upd nD, upd_same, nD⟩) ?_ ?_ ?_⟩
    · rintro D i zs H3 _ ⟨_, sm, _, _⟩
      exact sqT_same sm ht
    · rintro D i v zs H3 hv ⟨rfl, sm, hD, nD⟩ N hN
      rw [List.getElem?_map] at hv
      obtain ⟨n, hn, rfl⟩ := Option.map_eq_some_iff.mp hv
      have hi : i < ns.length := (List.getElem?_eq_some_iff.mp hn).1
      walk_at "rd"
      refine ⟨.int n, rfl, .inl ⟨n, rfl⟩, _, hD, ?_, hN _ _ ⟨?_, same_at sm nD, upd_same, nD⟩⟩
      · rw [List.length_map, List.length_take]
        exact small_size (by omega)
      · rw [List.take_add_one, hn, List.map_append]
        rfl
    · rintro D zs H3 nD ⟨rfl, sm, hD, _⟩
      try walk_at "rd"
      rw [List.length_map, List.take_length] at hD
      exact ⟨_, .inl ⟨SqL.of hD, fun l nl => q l _ (sm.trans (same_upd nl)) (sm.free nl) upd_same⟩⟩
theorem cal_plC (D : Dn K mg "_law_plain" s__law_plain ["value"]) (B : Bl mg) (c__law_inner : Cal P w K mg base "_law_inner" 2 ["value"] (spPl K)) : Cal P w K mg base "_law_plain" 3 ["value"] (spPl K) := by
  refine D.cal sc__law_plain (fun vs H Q E h => ?_) (fun f cdv A outer s H vs Q E hr h => ?_)
  · obtain ⟨v, rfl, _⟩ := h
    rfl
  · obtain ⟨v, rfl, h⟩ := h
    refine ⟨_, (pss_one (ps_ret (pe_ifExp (pt_val (pe_callB call_isi rfl B.isinstance (by decide +kernel) (pa_cons (pv 0) (pa_cons (pe_bltn (v := .ty "str") rfl B.str boot_str rfl) pa_nil)))) pe_str (pe_cal c__law_inner (hr.mono (by decide)) rfl (pa_cons (pv 0) pa_nil))))), ?_⟩
    walk_at "rd"
    have h2 := h
    rcases h with ⟨⟨n, rfl⟩ | rfl, q⟩ | ⟨r, ns, rfl, ht, hl, q⟩
    · refine isi_mk (.base (.int n)) (b := false) (by decide +kernel) ⟨false, rfl, ?_⟩
      rw [if_neg Bool.false_ne_true]
      exact ⟨_, rfl, h2⟩
    · refine isi_mk (.base .non) (b := false) (by decide +kernel) ⟨false, rfl, ?_⟩
      rw [if_neg Bool.false_ne_true]
      exact ⟨_, rfl, h2⟩
    · refine isi_mk (sqT_ty ht) (b := false) (by decide +kernel) ⟨false, rfl, ?_⟩
      rw [if_neg Bool.false_ne_true]
      exact ⟨_, rfl, h2⟩
end

section
theorem pg_tupK {X : Cx} {K : PySem.W.Frag} {es : List Expr} {k : Nat} {pos : Pos} {t : TGs} {n : Nat} (hK : X.K = K) (hc : X.calm = true) (h : PGs X es t)
    (hn : (assignEach es X.env).length = n) (hst : (assignEach es X.env).findIdx? (·.1) = none) : PG X (.Tuple es k pos) (gTup K n t) := by
  subst hK
  exact pg_tup hc h hn hst
end

section
variable {P : Program} {w : World} {K : PySem.W.Frag} {mg : Str → Option Value} {base : Heap} {CM CR aU a1 a2 : Addr}
abbrev s__law_joined_holds : Stmt := top 19
theorem sc__law_joined_holds : FnScope ["state", "whole", "pairs", "turn", "fits", "i", "given", "told", "m", "r", "own", "j", "pair"] ["state"] (defScope s__law_joined_holds) := ⟨rfl, rfl, rfl, by decide +kernel, rfl, by decide +kernel, by decide +kernel⟩

theorem div_lcm {m k : Nat} (hm : 0 < m) : m / Nat.gcd m k * k = Nat.lcm m k := by
  have hg : 0 < Nat.gcd m k := Nat.gcd_pos_of_pos_left _ hm
  refine Nat.eq_of_mul_eq_mul_left hg ?_
  rw [Nat.gcd_mul_lcm, ← Nat.mul_assoc, Nat.mul_div_cancel' (Nat.gcd_dvd_left m k)]
def AF (ps : List (Int × Nat)) (n : Nat) : Prop := ∀ (i j : Nat) (p q : Int × Nat), i < n → j < i → ps[i]? = some p → ps[j]? = some q → Fit p q
theorem atI4 {v : Int} (h0 : 0 ≤ v) (h1 : v < 4) (a b c d : V) : ∃ x, atI [a, b, c, d] v = some x ∧ (x = a ∨ x = b ∨ x = c ∨ x = d) := by
  have c : v = 0 ∨ v = 1 ∨ v = 2 ∨ v = 3 := by omega
  rcases c with rfl | rfl | rfl | rfl
  · exact ⟨_, rfl, .inl rfl⟩
  · exact ⟨_, rfl, .inr (.inl rfl)⟩
  · exact ⟨_, rfl, .inr (.inr (.inl rfl))⟩
  · exact ⟨_, rfl, .inr (.inr (.inr rfl))⟩
theorem PA.snoc {H : Hp} {t : Addr} {p : Int × Nat} (ht : H t = some (.tup [.int p.1, .int (p.2 : Int)])) : ∀ {xs : List V} {ps : List (Int × Nat)}, PA H xs ps → PA H (xs ++ [.ref t]) (ps ++ [p])
  | [], [], _ => ⟨⟨t, rfl, ht⟩, trivial⟩
  | _ :: _, _ :: _, ⟨h, r⟩ => ⟨h, PA.snoc ht r⟩
  | [], _ :: _, h => h.elim
  | _ :: _, [], h => h.elim
theorem PA.updL {D : Addr} {l : List V} {o : HO} {H : Hp} (hD : H D = some (.lst l)) : ∀ {xs : List V} {ps : List (Int × Nat)}, PA H xs ps → PA (upd H D o) xs ps
  | [], [], _ => trivial
  | _ :: _, _ :: _, ⟨⟨t, e, h⟩, r⟩ => ⟨⟨t, e, by rw [upd_ne (ne_of h hD (by intro z; cases z))]; exact h⟩, PA.updL hD r⟩
  | [], _ :: _, h => h.elim
  | _ :: _, [], h => h.elim
theorem PA.but {st : Addr} {H H' : Hp} {l : List V} (hs : H st = some (.lst l)) (s : But st H H') : ∀ {xs : List V} {ps : List (Int × Nat)}, PA H xs ps → PA H' xs ps
  | [], [], _ => trivial
  | _ :: _, _ :: _, ⟨⟨t, e, h⟩, r⟩ => ⟨⟨t, e, s _ _ (ne_of h hs (by intro z; cases z)) h⟩, PA.but hs s r⟩
  | [], _ :: _, h => h.elim
  | _ :: _, [], h => h.elim
theorem cal_jh (D : Dn K mg "_law_joined_holds" s__law_joined_holds ["state"]) (B : Bl mg) (c__law_number : Cal P w K mg base "_law_number" 2 ["state"] spNum) (c__law_take : Cal P w K mg base "_law_take" 1 ["state", "m"] spTake) (c__law_gcd : Cal P w K mg base "_law_gcd" 1 ["a", "b"] spComm)
    (c_joined : Cal P w K mg base "joined" 2 ["pairs"] (spJo K)) (c__law_plain : Cal P w K mg base "_law_plain" 3 ["value"] (spPl K)) (c__law_whole : Cal P w K mg base "_law_whole" 1 ["value", "due"] spWh) : Cal P w K mg base "_law_joined_holds" 4 ["state"] spSh := by
  refine D.cal sc__law_joined_holds (fun vs H Q E h => ?_) (fun f cdv A outer s H vs Q E hr h => ?_)
  · obtain ⟨st, x, y, rfl, _⟩ := h
    rfl
  · obtain ⟨st, x, y, rfl, hst, q⟩ := h
    refine ⟨_, (pss_cons (ps_set (i := 1) sc__law_joined_holds.nd rfl (Or.inl rfl) (pe_cal c__law_number (hr.mono (by decide)) rfl (pa_cons (pv 0) pa_nil)))
  (pss_cons (ps_set (i := 2) sc__law_joined_holds.nd rfl (Or.inl rfl) (pe_lst pa_nil))
  (pss_cons (ps_for PassesOwn.never rfl (pi_range1 rfl B.range (pa_cons (pe_cal c__law_take (hr.mono (by decide)) rfl (pa_cons (pv 0) (pa_cons pe_int pa_nil))) pa_nil)) (pg_name (i := 3) sc__law_joined_holds.nd rfl (Or.inl rfl)) (pss_cons (ps_set (i := 8) sc__law_joined_holds.nd rfl (Or.inl rfl) (pe_op op_add pe_int (pe_cal c__law_take (hr.mono (by decide)) rfl (pa_cons (pv 0) (pa_cons (pe_ix ix_list (pe_lst (pa_cons pe_int (pa_cons pe_int (pa_cons pe_int (pa_cons (pe_op op_powI pe_int pe_int) pa_nil))))) (pe_cal c__law_take (hr.mono (by decide)) rfl (pa_cons (pv 0) (pa_cons pe_int pa_nil))) (fun _ _ => rfl)) pa_nil)))))
  (pss_cons (ps_set (i := 9) sc__law_joined_holds.nd rfl (Or.inl rfl) (pv 1))
  (pss_cons (ps_if (pt_cmpR op_eq (pe_cal c__law_take (hr.mono (by decide)) rfl (pa_cons (pv 0) (pa_cons pe_int pa_nil))) pe_int (nomark _)) (pss_one (ps_set (i := 9) sc__law_joined_holds.nd rfl (Or.inl rfl) (pe_op op_add (pv 1) (pe_cal c__law_take (hr.mono (by decide)) rfl (pa_cons (pv 0) (pa_cons pe_int pa_nil)))))) pss_nil)
  (pss_one (ps_expr (pe_bm PySem.F.plainAttrs_list PySem.F.slot_list_append PySem.F.type_list_append mt_append (pv 2) (pa_cons (pe_tup (pa_cons (pe_op op_add (pv 9) (pe_op op_mulI (pv 8) (pe_op op_sub (pe_cal c__law_take (hr.mono (by decide)) rfl (pa_cons (pv 0) (pa_cons pe_int pa_nil))) pe_int))) (pa_cons (pv 8) pa_nil))) pa_nil))))))))
  (pss_cons (ps_set (i := 4) sc__law_joined_holds.nd rfl (Or.inl rfl) pe_bl)
  (pss_cons (ps_for PassesOwn.never rfl (pi_range1 rfl B.range (pa_cons (pe_callB cr_lenS rfl B.len (by decide +kernel) (pa_cons (pv 2) pa_nil)) pa_nil)) (pg_name (i := 5) sc__law_joined_holds.nd rfl (Or.inl rfl)) (pss_one (ps_for PassesOwn.never rfl (pi_range1 rfl B.range (pa_cons (pv 5) pa_nil)) (pg_name (i := 11) sc__law_joined_holds.nd rfl (Or.inl rfl)) (pss_one (ps_if (pt_cmpR op_ne (pe_op op_mod (pe_callTy call_int1 rfl B.int boot_int (pa_cons (pe_op op_sub (pe_ix ix_tup (pe_ix ix_list (pv 2) (pv 5) (fun _ _ => rfl)) pe_int (fun _ _ => rfl)) (pe_ix ix_tup (pe_ix ix_list (pv 2) (pv 11) (fun _ _ => rfl)) pe_int (fun _ _ => rfl))) pa_nil)) (pe_cal c__law_gcd (hr.mono (by decide)) rfl (pa_cons (pe_ix ix_tup (pe_ix ix_list (pv 2) (pv 5) (fun _ _ => rfl)) pe_int (fun _ _ => rfl)) (pa_cons (pe_ix ix_tup (pe_ix ix_list (pv 2) (pv 11) (fun _ _ => rfl)) pe_int (fun _ _ => rfl)) pa_nil)))) pe_int (nomark _)) (pss_one (ps_set (i := 4) sc__law_joined_holds.nd rfl (Or.inl rfl) pe_bl)) pss_nil)))))
  (pss_cons (ps_set (i := 6) sc__law_joined_holds.nd rfl (Or.inl rfl) (pe_callTy cr_tupOf rfl B.tuple boot_tuple (pa_cons (pv 2) pa_nil)))
  (pss_cons (ps_if (pt_cmpR op_eq (pe_cal c__law_take (hr.mono (by decide)) rfl (pa_cons (pv 0) (pa_cons pe_int pa_nil))) pe_int (nomark _)) (pss_one (ps_setLc (i := 6) (own := [("pair", 12)]) rfl sc__law_joined_holds.nd rfl rfl (sw_true rfl rfl rfl (by decide +kernel)) (pi_list (pv 2)) (blkOk_by (N := ["state", "whole", "pairs", "turn", "fits", "i", "given", "told", "m", "r", "own", "j", "pair"]) (sc := defScope s__law_joined_holds) (own := [("pair", 12)]) (by decide +kernel)) (fun _ _ _ _ _ => (pg_name (i := 12) sc__law_joined_holds.nd rfl (Or.inl rfl))) (fun _ _ _ _ _ => pts_nil) (fun _ _ _ _ _ => (pv 12)))) pss_nil)
  (pss_cons (ps_set (i := 7) sc__law_joined_holds.nd rfl (Or.inr rfl) (pe_cal c__law_plain (hr.mono (by decide)) rfl (pa_cons (pe_cal c_joined (hr.mono (by decide)) rfl (pa_cons (pv 6) pa_nil)) pa_nil)))
  (pss_cons (ps_if (pt_not (pt_truth (pv 4) (by intro _; rfl))) (pss_one (ps_ret (pe_cmpR op_isN (pv 7) pe_non (nomark _)))) pss_nil)
  (pss_cons (ps_set (i := 8) sc__law_joined_holds.nd rfl (Or.inl rfl) pe_int)
  (pss_cons (ps_for PassesOwn.never rfl (pi_list (pv 2)) (pg_tup rfl (pgs_cons (pg_name (i := 9) sc__law_joined_holds.nd rfl (Or.inl rfl)) (pgs_cons (pg_name (i := 10) sc__law_joined_holds.nd rfl (Or.inl rfl)) pgs_nil))) (pss_one (ps_set (i := 8) sc__law_joined_holds.nd rfl (Or.inl rfl) (pe_op op_mulI (pe_op op_fdivW (pv 8) (pe_cal c__law_gcd (hr.mono (by decide)) rfl (pa_cons (pv 8) (pa_cons (pv 10) pa_nil)))) (pv 10)))))
  (pss_cons (ps_if (PW.pt (pw_or (pt_not (pt_val (pe_callB call_isi rfl B.isinstance (by decide +kernel) (pa_cons (pv 7) (pa_cons (pe_bltn (v := .ty "tuple") rfl B.tuple boot_tuple rfl) pa_nil))))) (pw_or (pt_cmpR op_ne (pe_callB cr_lenS rfl B.len (by decide +kernel) (pa_cons (pv 7) pa_nil)) pe_int (nomark _)) (pw_or (pt_not (pt_val (pe_cal c__law_whole (hr.mono (by decide)) rfl (pa_cons (pe_ix ix_tup (pv 7) pe_int (fun _ _ => rfl)) (pa_cons (pv 8) pa_nil))))) (pw_or1 (pt_not (pt_val (pe_cal c__law_whole (hr.mono (by decide)) rfl (pa_cons (pe_ix ix_tup (pv 7) pe_int (fun _ _ => rfl)) (pa_cons (pe_ix ix_tup (pv 7) pe_int (fun _ _ => rfl)) pa_nil)))))))))) (pss_one (ps_ret pe_bl)) pss_nil)
  (pss_one (ps_ret (pe_and (pe_chain op_le op_lt pe_int (pe_ix ix_tup (pv 7) pe_int (fun _ _ => rfl)) (pv 8)) (pe_one (pe_callB (cr_all rfl) rfl B.all (by decide +kernel) (pa_cons (pe_lc (own := [("r", 9), ("own", 10)]) rfl sc__law_joined_holds.nd (pi_list (pv 2)) (blkOk_by (N := ["state", "whole", "pairs", "turn", "fits", "i", "given", "told", "m", "r", "own", "j", "pair"]) (sc := defScope s__law_joined_holds) (own := [("r", 9), ("own", 10)]) (by decide +kernel)) (fun _ _ _ _ _ => (pg_tupK (K := K) (n := 2) rfl rfl (pgs_cons (pg_name (i := 9) sc__law_joined_holds.nd rfl (Or.inl rfl)) (pgs_cons (pg_name (i := 10) sc__law_joined_holds.nd rfl (Or.inl rfl)) pgs_nil)) rfl rfl)) (fun _ _ _ _ _ => pts_nil) (fun _ _ _ _ _ => (pe_cmpR op_eq (pe_op op_mod (pe_callTy call_int1 rfl B.int boot_int (pa_cons (pe_op op_sub (pe_ix (ix_tupK (K := K) rfl) (pv 7) pe_int (fun _ _ => rfl)) (pv 9)) pa_nil)) (pv 10)) pe_int (nomark _)))) pa_nil)))))))))))))))))), ?_⟩
    rw [CB.rd_seq]
    walk_at "rs"
    refine ⟨st, x, y, rfl, hst, fun wh x1 y1 H1 bt1 h1 hw => ?_⟩
    show tSeq _ _ _ _ _
    rw [CB.rd_seq]
    walk_at "rs"
    refine ⟨by decide, fun lp nlp => ?_⟩
    have hT : T40 < 2 ^ 140 := by decide +kernel
    have sl : st ≠ lp := ne_of_none h1 nlp
    have nlpH : H lp = none := by
      cases e : H lp with
      | none => rfl
      | some o => rw [bt1 _ _ sl.symm e] at nlp; cases nlp
    have bl : ∀ {H' : Hp} {o : HO}, But st H H' → But st H (upd H' lp o) := fun {H' o} b c p n e => by
      rw [upd_ne (fun z => by subst z; rw [nlpH] at e; cases e)]
      exact b c p n e
    refine seq_cut (fun σ H2 => ∃ (x y : Int) (xs : List V) (ps : List (Int × Nat)) (s3 s8 s9 : Option V), σ = [some (.ref st), some (.int wh), some (.ref lp), s3, none, none, none, none, s8, s9, none, none, none] ∧ But st H H2 ∧ H2 st = some (.lst [.int x, .int y]) ∧ H2 lp = some (.lst xs) ∧ PA H2 xs ps ∧ ps.length ≤ 4 ∧ (∀ p ∈ ps, 0 < p.2 ∧ p.2 < 2 ^ 70 ∧ Sz 200 p.1)) (fun R hR => ?_) ?_
    · walk_at "rs"
      refine ⟨st, x1, y1, 5, rfl, by rw [upd_ne sl]; exact h1, by decide, by decide +kernel, fun tn x2 y2 t0 t1 => ⟨tn, rfl, by omega, by omega, ?_⟩⟩
      refine ForR.w (fun i σ H2 => ∃ (x y : Int) (xs : List V) (ps : List (Int × Nat)) (s3 s8 s9 : Option V), σ = [some (.ref st), some (.int wh), some (.ref lp), s3, none, none, none, none, s8, s9, none, none, none] ∧ But st H H2 ∧ H2 st = some (.lst [.int x, .int y]) ∧ H2 lp = some (.lst xs) ∧ PA H2 xs ps ∧ ps.length ≤ i ∧ i ≤ 4 ∧ (∀ p ∈ ps, 0 < p.2 ∧ p.2 < 2 ^ 70 ∧ Sz 200 p.1))
        ⟨x2, y2, [], [], none, none, none, rfl, (bl bt1).upd, upd_same, by rw [upd_ne sl.symm, upd_same], trivial, by decide, by decide, fun p hp => by simp at hp⟩ ?_ ?_
      · rintro i σ H2 hi ⟨x3, y3, xs, ps, s3, s8, s9, rfl, bt2, h2, hl2, hpa, hle, i4, hps⟩ N hN
        walk_at "rs"
        rw [CB.rd_seq]
        walk_at "rs"
        refine ⟨⟨by decide, by decide +kernel⟩, by decide, fun l4 nl4 => ⟨st, x3, y3, _, rfl, same_upd nl4 _ _ h2, by decide, by decide +kernel, fun u4 x6 y6 u40 u41 => ?_⟩⟩
        have n4 : st ≠ l4 := ne_of_none h2 nl4
        have l4p : lp ≠ l4 := ne_of_none hl2 nl4
        obtain ⟨w3, e3, hw3⟩ := atI4 u40 u41 (.int 6) (.int 12) (.int 1000) (.int (10 ^ Int.toNat 20))
        refine ⟨_, u4, rfl, SqL.of (by rw [upd_ne n4.symm, upd_same]), w3, e3, ?_⟩
        obtain ⟨most, rfl, b3⟩ : ∃ i : Int, w3 = .int i ∧ (1 ≤ i ∧ i ≤ 10 ^ 20) := by
          rcases hw3 with rfl | rfl | rfl | rfl
          · exact ⟨_, rfl, by decide⟩
          · exact ⟨_, rfl, by decide⟩
          · exact ⟨_, rfl, by decide⟩
          · exact ⟨_, rfl, by decide⟩
        have bt3 : But st H2 (upd (upd H2 l4 (.lst [.int 6, .int 12, .int 1000, .int (10 ^ Int.toNat 20)])) st (.lst [.int x6, .int y6])) := (But.of (same_upd nl4)).upd
        have h3 : (upd (upd H2 l4 (.lst [.int 6, .int 12, .int 1000, .int (10 ^ Int.toNat 20)])) st (.lst [.int x6, .int y6])) st = some (.lst [.int x6, .int y6]) := upd_same
        generalize (upd (upd H2 l4 (.lst [.int 6, .int 12, .int 1000, .int (10 ^ Int.toNat 20)])) st (.lst [.int x6, .int y6])) = H3 at *
        refine ⟨st, x6, y6, most, rfl, h3, by omega, lg_int (by omega), fun mm x7 y7 m0 m1 => ⟨mm, rfl, ?_⟩⟩
        have bt4 : But st H2 (upd H3 st (.lst [.int x7, .int y7])) := bt3.upd
        have h4 : (upd H3 st (.lst [.int x7, .int y7])) st = some (.lst [.int x7, .int y7]) := upd_same
        generalize upd H3 st (.lst [.int x7, .int y7]) = H4 at *
        clear h3 bt3 e3 hw3 nl4 n4 l4p
        obtain ⟨m, em⟩ : ∃ m : Nat, 1 + mm = (m : Int) := ⟨(1 + mm).toNat, by omega⟩
        rw [em]
        rw [CB.rd_seq]
        walk_at "rs"
        refine seq_cut (fun σ H5 => ∃ (r x y : Int), σ = [some (.ref st), some (.int wh), some (.ref lp), some (.int (0 + (i : Int))), none, none, none, none, some (.int (m : Int)), some (.int r), none, none, none] ∧ H5 st = some (.lst [.int x, .int y]) ∧ But st H2 H5 ∧ Sz 150 r) (fun R2 hR2 => ?_) ?_
        · have zw : Sz 149 wh := Int.ofNat_lt.mp (Int.lt_of_le_of_lt hw (show T40 < ((2 ^ 149 : Nat) : Int) by decide +kernel))
          walk_at "rs"
          refine ⟨st, x7, y7, _, rfl, h4, by decide, by decide +kernel, fun v x9 y9 v0 v1 => ⟨rfl, ?_⟩⟩
          by_cases c : v = 0
          · rw [if_pos (by rw [c])]
            refine ⟨st, x9, y9, _, rfl, upd_same, by decide, by decide +kernel, fun u x10 y10 u0 u1 => ⟨u, rfl, hR2 _ _ ⟨wh + u, x10, y10, rfl, upd_same, bt4.upd.upd, ?_⟩⟩⟩
            exact zw.add (show Sz 149 u by unfold Sz; exact Nat.lt_of_lt_of_le (show u.natAbs < 2 ^ 3 by omega) (Nat.pow_le_pow_right (by decide) (by decide)))
          · rw [if_neg (fun z => c (by injection z))]
            exact hR2 _ _ ⟨wh, x9, y9, rfl, upd_same, bt4.upd, zw.le (by decide)⟩
        rintro σ H5 ⟨r, x8, y8, rfl, h5, bt5, zr⟩
        have hl5 := bt5 _ _ sl.symm hl2
        walk_at "rs"
        refine ⟨tyL hl5, st, x8, y8, _, rfl, h5, by decide, by decide +kernel, fun u xA yA u0 u1 => ?_⟩
        have zm : Sz 70 (m : Int) := by
          unfold Sz
          have : (2 : Nat) ^ 70 = 1180591620717411303424 := by decide
          rw [this]
          omega
        have mb : m < 2 ^ 70 := by
          unfold Sz at zm
          omega
        have ub : -2 ≤ u - 2 ∧ u - 2 ≤ 2 := by omega
        have zu : Sz 3 (u - 2) := by unfold Sz; show (u - 2).natAbs < 8; omega
        refine ⟨u, rfl, zm.ok zu (by decide) (by decide), by decide, fun tp ntp => ?_⟩
        have b6 : But st H2 (upd H5 st (.lst [.int xA, .int yA])) := bt5.upd
        have h6 : (upd H5 st (.lst [.int xA, .int yA])) st = some (.lst [.int xA, .int yA]) := upd_same
        generalize upd H5 st (.lst [.int xA, .int yA]) = H6 at *
        have b7 := b6.same (same_upd (o := .tup [.int (r + (m : Int) * (u - 2)), .int (m : Int)]) ntp)
        have h7 := same_upd (o := .tup [.int (r + (m : Int) * (u - 2)), .int (m : Int)]) ntp _ _ h6
        have htp : (upd H6 tp (.tup [.int (r + (m : Int) * (u - 2)), .int (m : Int)])) tp = some (.tup [.int (r + (m : Int) * (u - 2)), .int (m : Int)]) := upd_same
        generalize upd H6 tp (.tup [.int (r + (m : Int) * (u - 2)), .int (m : Int)]) = H7 at *
        have hl7 := b7 _ _ sl.symm hl2
        have tl : tp ≠ lp := ne_of htp hl7 (by intro z; cases z)
        have pa7 : PA H7 (xs ++ [.ref tp]) (ps ++ [(r + (m : Int) * (u - 2), m)]) := (PA.but h2 b7 hpa).snoc htp
        refine ⟨xs, hl7, ?_, hN _ _ ⟨xA, yA, xs ++ [.ref tp], ps ++ [(r + (m : Int) * (u - 2), m)], _, _, _, rfl, bl (bt2.trans b7), ?_, upd_same, PA.updL hl7 pa7, ?_, by omega, ?_⟩⟩
        · rw [hpa.len]
          exact small_size (by omega)
        · rw [upd_ne sl]
          exact h7
        · rw [List.length_append]
          show ps.length + 1 ≤ i + 1
          omega
        · intro p hp
          rcases List.mem_append.mp hp with hp | hp
          · exact hps p hp
          · rw [List.mem_singleton.mp hp]
            refine ⟨by show 0 < m; omega, mb, ?_⟩
            exact ((zr.le (by decide : 150 ≤ 199)).add ((zm.mul zu).le (by decide))).le (by decide)
      · rintro σ H2 ⟨x3, y3, xs, ps, s3, s8, s9, rfl, bt2, h2, hl2, hpa, hle, i4, hps⟩
        exact hR _ _ ⟨x3, y3, xs, ps, s3, s8, s9, rfl, bt2, h2, hl2, hpa, by omega, hps⟩
    rintro σ H2 ⟨x3, y3, xs, ps, s3, s8, s9, rfl, bt2, h2, hl2, hpa, hle, hps⟩
    have hlen := hpa.len
    walk_at "nx"
    walk_at "nx"
    refine ⟨xs.length, .inl ⟨_, SqL.of hl2, rfl⟩, by omega, by omega, ?_⟩
    rw [Int.toNat_natCast]
    refine ForR.w (fun i σ H3 => ∃ (b : Bool) (s5 s11 : Option V), σ = [some (.ref st), some (.int wh), some (.ref lp), s3, some (.bl b), s5, none, none, s8, s9, none, s11, none] ∧ H3 = H2 ∧ (b = true ↔ AF ps i)) ⟨true, _, _, rfl, rfl, ⟨fun _ i j p q h _ => by omega, fun _ => rfl⟩⟩ ?_ ?_
    · rintro i σ H3 hi ⟨b, s5, s11, rfl, rfl, hb⟩ N hN
      walk_at "rs"
      refine ⟨by omega, by omega, ?_⟩
      rw [show (0 + (i : Int)).toNat = i by omega, show (0 + (i : Int)) = (i : Int) by omega]
      refine ForR.w (fun k σ H4 => ∃ (b : Bool) (s11 : Option V), σ = [some (.ref st), some (.int wh), some (.ref lp), s3, some (.bl b), some (.int (i : Int)), none, none, s8, s9, none, s11, none] ∧ H4 = H3 ∧ (b = true ↔ (AF ps i ∧ ∀ j p q, j < k → ps[i]? = some p → ps[j]? = some q → Fit p q))) ⟨b, _, rfl, rfl, by rw [hb]; exact ⟨fun h => ⟨h, fun j p q h _ _ => by omega⟩, fun h => h.1⟩⟩ ?_ ?_
      · rintro k σ H4 hk ⟨b2, s11, rfl, rfl, hb2⟩ N2 hN2
        walk_at "rs"
        have hx : xs[i]? = some xs[i] := List.getElem?_eq_getElem hi
        have hy : xs[k]? = some (xs[k]'(by omega)) := List.getElem?_eq_getElem (by omega)
        obtain ⟨p, t, hp, ep, ht⟩ := hpa.get hx
        obtain ⟨q', u, hq, eq, hu⟩ := hpa.get hy
        rw [show (0 + (k : Int)) = (k : Int) by omega]
        have L := SqL.of (K := K) hl2
        have T1 := SqT.of (K := K) ht
        have U1 := SqT.of (K := K) hu
        rw [ep] at hx
        rw [eq] at hy
        have ax := atI_nat hx
        have ay := atI_nat hy
        refine ⟨_, L, _, ax, _, rfl, _, T1, _, rfl, _, L, _, ay, _, rfl, _, U1, _, rfl, _, rfl, _, rfl, ?_⟩
        refine ⟨_, L, _, ax, _, rfl, _, T1, _, rfl, _, L, _, ay, _, rfl, _, U1, _, rfl, ?_⟩
        refine ⟨_, _, rfl, ?_⟩
        have hg : 0 < Nat.gcd p.2 q'.2 := Nat.gcd_pos_of_pos_left _ (hps p (List.mem_of_getElem? hp)).1
        rw [Int.natAbs_natCast, Int.natAbs_natCast]
        have one : ∀ j p1 q1, j < k + 1 → ps[i]? = some p1 → ps[j]? = some q1 → (j < k ∨ (p1 = p ∧ q1 = q')) := fun j p1 q1 hj h1 h2 => by
          rcases Nat.lt_or_ge j k with c | c
          · exact .inl c
          · have : j = k := by omega
            subst this
            rw [hp] at h1
            rw [hq] at h2
            cases h1
            cases h2
            exact .inr ⟨rfl, rfl⟩
        refine ⟨_, rfl, by omega, ite2 (fun c => hN2 _ _ ⟨b2, _, rfl, rfl, ?_⟩) (fun c => hN2 _ _ ⟨false, _, rfl, rfl, ?_⟩)⟩
        · rw [hb2]
          refine ⟨fun h => ⟨h.1, fun j p1 q1 hj h1 h2 => ?_⟩, fun h => ⟨h.1, fun j p1 q1 hj h1 h2 => h.2 j p1 q1 (by omega) h1 h2⟩⟩
          rcases one j p1 q1 hj h1 h2 with c' | ⟨rfl, rfl⟩
          · exact h.2 j p1 q1 c' h1 h2
          · exact Int.dvd_of_emod_eq_zero c
        · refine ⟨(fun z => by cases z), fun h => ?_⟩
          have := h.2 k p q' (by omega) hp hq
          exact absurd (Int.emod_eq_zero_of_dvd this) c
      · rintro σ H4 ⟨b2, s11, rfl, rfl, hb2⟩
        refine hN _ _ ⟨b2, _, _, rfl, rfl, ?_⟩
        rw [hb2]
        constructor
        · rintro ⟨h1, h2⟩ i' j p q hi' hj hp hq
          rcases Nat.lt_or_ge i' i with c | c
          · exact h1 i' j p q c hj hp hq
          · have : i' = i := by omega
            subst this
            exact h2 j p q hj hp hq
        · intro h
          exact ⟨fun i' j p q hi' hj hp hq => h i' j p q (by omega) hj hp hq, fun j p q hj hp hq => h i j p q (by omega) hj hp hq⟩
    rintro σ H3 ⟨b, s5, s11, rfl, rfl, hb⟩
    have hb : b = true ↔ AllFit ps := by
      rw [hb]
      refine ⟨fun h i j p q hj hp hq => h i j p q ?_ hj hp hq, fun h i j p q _ hj hp hq => h i j p q hj hp hq⟩
      rw [hlen]
      exact (List.getElem?_eq_some_iff.mp hp).1
    walk_at "nx"
    walk_at "nx"
    refine ⟨_, .inl ⟨SqL.of hl2, fun gp ngp => ?_⟩⟩
    have sg := same_upd (o := .tup xs) ngp
    have hgp : (upd H3 gp (.tup xs)) gp = some (.tup xs) := upd_same
    have h4 := sg _ _ h2
    have hl4 := sg _ _ hl2
    have pa4 := PA.same sg hpa
    have bt4 := bt2.same sg
    generalize upd H3 gp (.tup xs) = H4 at *
    clear hpa hl2 h2 bt2 sg
    refine seq_cut (fun σ H5 => ∃ (g : Addr) (x y : Int) (s12 : Option V), σ = [some (.ref st), some (.int wh), some (.ref lp), s3, some (.bl b), s5, some (.ref g), none, s8, s9, none, s11, s12] ∧ But st H H5 ∧ H5 st = some (.lst [.int x, .int y]) ∧ H5 lp = some (.lst xs) ∧ PA H5 xs ps ∧ (SqL K H5 g xs ∨ SqT K H5 g xs)) (fun R2 hR2 => ?_) ?_
    · walk_at "rs"
      refine ⟨st, _, _, _, rfl, h4, by decide, by decide +kernel, fun v x5 y5 v0 v1 => ⟨rfl, ?_⟩⟩
      have bt5 : But st H4 (upd H4 st (.lst [.int x5, .int y5])) := But.refl.upd
      have h5 : (upd H4 st (.lst [.int x5, .int y5])) st = some (.lst [.int x5, .int y5]) := upd_same
      have hl5 := bt5 _ _ sl.symm hl4
      have pa5 := PA.but h4 bt5 pa4
      have hg5 := bt5 _ _ (ne_of hgp h4 (by intro z; cases z)) hgp
      have bt6 := bt4.trans bt5
      generalize upd H4 st (.lst [.int x5, .int y5]) = H5 at *
      by_cases c : v = 0
      · rw [if_pos (by rw [c])]
        refine ⟨⟨_, SqL.of hl5⟩, LcL.p (xs := xs) (fun i => xs[i]?) (by omega) (fun H6 s6 => SqL.of (s6 _ _ hl5)) (fun i x hx H6 s6 M S hM hS => ?_) (fun D H6 nD s6 hD => ?_)⟩
        · walk_at "rs"
          exact hM x _ hx (Same.refl _)
        · rw [fm_self] at hD
          exact hR2 _ _ ⟨D, x5, y5, _, rfl, bt6.same s6, s6 _ _ h5, s6 _ _ hl5, PA.same s6 pa5, .inl (SqL.of hD)⟩
      · rw [if_neg (fun z => c (by injection z))]
        exact hR2 _ _ ⟨gp, x5, y5, _, rfl, bt6, h5, hl5, pa5, .inr (SqT.of hg5)⟩
    rintro σ H5 ⟨g, x5, y5, s12, rfl, bt5, h5, hl5, pa5, hg⟩
    walk_at "nx"
    refine ⟨g, xs, ps, rfl, hg, pa5, hle, hps, fun hn H6 s6 => ?_, fun hf r s H6 s6 np6 h6 r0 r1 hsol => ?_⟩
    · have hbf : b = false := by
        cases b with
        | false => rfl
        | true => exact absurd (hb.mp rfl) hn
      subst hbf
      refine ⟨_, rfl, .inl ⟨.inr rfl, ?_⟩⟩
      walk_at "nx"
      refine ⟨false, rfl, ?_⟩
      rw [if_pos (by decide), decide_eq_true trivial]
      exact q x5 y5 _ (bt5.same s6) (s6 _ _ h5)
    · have hbt := hb.mpr hf
      subst hbt
      refine ⟨_, rfl, .inr ⟨r, [s, ((Mn ps : Nat) : Int)], rfl, SqT.of h6, by show 2 ≤ 10; decide, fun t H7 s7 np7 h7 => ?_⟩⟩
      have s57 := s6.trans s7
      have h7s := s57 _ _ h5
      have hl7 := s57 _ _ hl5
      have pa7 := PA.same s57 pa5
      have bt7 := bt5.same s57
      clear h6 s6 s7 s57 h5 hl5 pa5 hg bt5
      walk_at "nx"
      refine ⟨true, rfl, ?_⟩
      rw [if_neg (by decide)]
      walk_at "nx"
      walk_at "nx"
      have hMp : ∀ i, 0 < Mn (ps.take i) := fun i => Mn_pos fun p hp => (hps p (List.mem_of_mem_take hp)).1
      refine ⟨⟨_, SqL.of hl7⟩, ForL.w (xs := xs) (fun i σ H8 => ∃ s9 s10, σ = [some (.ref st), some (.int wh), some (.ref lp), s3, some (.bl true), s5, some (.ref g), some (.ref t), some (.int ((Mn (ps.take i) : Nat) : Int)), s9, s10, s11, s12] ∧ H8 = H7 ∧ i ≤ 4 ∧ Sz (1 + 70 * i) ((Mn (ps.take i) : Nat) : Int)) ⟨s9, none, rfl, rfl, by decide, by show Sz _ ((1 : Nat) : Int); unfold Sz; decide⟩ ?_ ?_ ?_⟩
      · rintro i σ H8 _ ⟨_, _, rfl, rfl, _⟩
        exact SqL.of hl7
      · rintro i x σ H8 hx ⟨s9', s10, rfl, rfl, i4', zM⟩ N hN
        obtain ⟨p, tp, hp, rfl, htp⟩ := pa7.get hx
        have hi : i < ps.length := (List.getElem?_eq_some_iff.mp hp).1
        obtain ⟨k0, k70, zr⟩ := hps p (List.mem_of_getElem? hp)
        walk_at "rs"
        refine ⟨_, SqT.of htp, rfl, _, _, rfl, _, _, rfl, rfl, ?_⟩
        walk_at "rs"
        refine ⟨_, _, rfl, ?_⟩
        rw [Int.natAbs_natCast, Int.natAbs_natCast]
        have hg : 0 < Nat.gcd (Mn (ps.take i)) p.2 := Nat.gcd_pos_of_pos_right _ k0
        have gk : Nat.gcd (Mn (ps.take i)) p.2 ≤ p.2 := Nat.le_of_dvd k0 (Nat.gcd_dvd_right ..)
        have zk : Sz 70 (p.2 : Int) := by unfold Sz; omega
        have i4'' : 1 + 70 * i ≤ 281 := by omega
        have zd : Sz (1 + 70 * i) (((Mn (ps.take i) : Nat) : Int) / ((Nat.gcd (Mn (ps.take i)) p.2 : Nat) : Int)) := natS (y := ((Mn (ps.take i) : Nat) : Int)) (by
          rw [← Int.natCast_ediv, Int.natAbs_natCast, Int.natAbs_natCast]
          exact Nat.div_le_self _ _) zM
        have e1 : ((Mn (ps.take i) : Nat) : Int) / ((Nat.gcd (Mn (ps.take i)) p.2 : Nat) : Int) * (p.2 : Int) = ((Mn (ps.take (i + 1)) : Nat) : Int) := by
          rw [List.take_add_one, hp]
          show _ = ((Mn (ps.take i ++ [p]) : Nat) : Int)
          rw [Mn_succ, ← div_lcm (hMp i), Int.natCast_mul, Int.natCast_ediv]
        have zn : Sz (1 + 70 * (i + 1)) (((Mn (ps.take (i + 1)) : Nat) : Int)) := by
          rw [← e1]
          exact (zd.mul zk).le (by omega)
        refine ⟨_, rfl, ⟨by omega, Nat.lt_of_le_of_lt (log_lt (k := 70) (by rw [Int.natAbs_natCast]; omega)) (by decide)⟩, (zd.le i4'').ok zk (by decide) (by decide), ?_⟩
        rw [e1]
        exact hN _ _ ⟨_, _, rfl, rfl, by omega, zn⟩
      · rintro σ H8 ⟨s9', s10, rfl, rfl, _, zM⟩
        rw [hlen, List.take_length] at *
        have T7 := SqT.of (K := K) h7
        walk_at "nx"
        walk_at "nx"
        refine isi_mk (.base (.tup h7)) (b := true) (by decide +kernel) ⟨true, rfl, ?_⟩
        rw [if_neg (by decide)]
        refine ⟨2, .inr ⟨_, T7, rfl⟩, ?_⟩
        rw [if_pos (by decide)]
        refine ⟨_, T7, _, rfl, _, _, rfl, _, rfl, ?_⟩
        rw [decide_eq_true rfl, if_neg (by decide)]
        refine ⟨_, T7, _, rfl, _, T7, _, rfl, _, _, rfl, _, rfl, ?_⟩
        rw [decide_eq_true rfl, if_neg (by decide)]
        refine ⟨_, T7, _, rfl, _, rfl, ?_⟩
        rw [if_pos r0]
        refine ⟨_, rfl, ?_⟩
        rw [if_pos r1]
        refine ⟨⟨_, SqL.of hl7⟩, LcL.p (xs := xs) (fun _ => some (.bl true)) (by rw [pa7.len]; omega) (fun H9 s9 => SqL.of (s9 _ _ hl7)) (fun i x hx H9 s9 M S hM hS => ?_) (fun D H9 nD s9 hD => ?_)⟩
        · obtain ⟨p, tp, hp, rfl, htp⟩ := pa7.get hx
          have hmem := List.mem_of_getElem? hp
          obtain ⟨k0, k70, zr⟩ := hps p hmem
          walk_at "rs"
          refine ⟨_, SqT.of (s9 _ _ htp), rfl, _, _, rfl, _, _, rfl, rfl, ?_⟩
          walk_at "rs"
          refine ⟨_, SqT.of (s9 _ _ h7), _, rfl, _, rfl, by omega, ?_⟩
          have hd := Int.emod_eq_zero_of_dvd (hsol p hmem)
          rw [hd, decide_eq_true rfl]
          exact hM _ _ rfl (Same.refl _)
        · have e1 : ∀ n : Nat, (List.range n).filterMap (fun _ => some (V.bl true)) = ((List.range n).map fun _ => true).map V.bl := fun n => by
            rw [List.map_map, ← List.filterMap_eq_map]
            rfl
          rw [e1] at hD
          refine ⟨_, rfl, _, SqL.of hD, ?_⟩
          rw [show ((List.range xs.length).map fun _ => true).all id = true by rw [List.all_map, List.all_eq_true]; intro _ _; rfl]
          exact q x5 y5 _ (bt7.same s9) (s9 _ _ h7s)
end

section
variable {P : Program} {w : World} {K : PySem.W.Frag} {mg : Str → Option Value} {base : Heap} {CM : Addr}
theorem gcd_mod {a m : Int} (h : 0 < m) : Nat.gcd (a % m).natAbs m.natAbs = Nat.gcd a.natAbs m.natAbs := by
  have e := Int.emod_add_mul_ediv a m
  refine Nat.dvd_antisymm (Nat.dvd_gcd ?_ (Nat.gcd_dvd_right ..)) (Nat.dvd_gcd ?_ (Nat.gcd_dvd_right ..))
  · have h1 : ((Nat.gcd (a % m).natAbs m.natAbs : Nat) : Int) ∣ a % m := Int.ofNat_dvd_left.mpr (Nat.gcd_dvd_left ..)
    have h2 : ((Nat.gcd (a % m).natAbs m.natAbs : Nat) : Int) ∣ m := Int.ofNat_dvd_left.mpr (Nat.gcd_dvd_right ..)
    have := Int.dvd_add h1 (Int.dvd_trans h2 (Int.dvd_mul_right m (a / m)))
    rw [e] at this
    exact Int.ofNat_dvd_left.mp this
  · have h1 : ((Nat.gcd a.natAbs m.natAbs : Nat) : Int) ∣ a := Int.ofNat_dvd_left.mpr (Nat.gcd_dvd_left ..)
    have h2 : ((Nat.gcd a.natAbs m.natAbs : Nat) : Int) ∣ m := Int.ofNat_dvd_left.mpr (Nat.gcd_dvd_right ..)
    have := Int.dvd_sub h1 (Int.dvd_trans h2 (Int.dvd_mul_right m (a / m)))
    rw [show a - m * (a / m) = a % m by omega] at this
    exact Int.ofNat_dvd_left.mp this
abbrev s_law : Stmt := top 20
theorem sc_law : FnScope ["script", "state", "a", "m", "told", "e"] ["script"] (defScope s_law) := ⟨rfl, rfl, rfl, by decide +kernel, rfl, by decide +kernel, by decide +kernel⟩

def spLaw (K : PySem.W.Frag) : Sp := fun vs H Q _ => ∃ (a : Addr) (ns : List Int), vs = [.ref a] ∧ SqL K H a (ns.map V.int) ∧ ns.length ≤ 63 ∧ ∀ H', Q (.bl true) H'
theorem ok_law {f : Addr} {fd : FuncData} (F : Fun K "law" "law" s_law f fd) (B : Bl mg) (c__law_state : Cal P w K mg base "_law_state" 1 ["script"] (spState K)) (c__law_take : Cal P w K mg base "_law_take" 1 ["state", "m"] spTake) (c__law_number : Cal P w K mg base "_law_number" 2 ["state"] spNum)
    (c_inverse : Cal P w K mg base "inverse" 2 ["a", "m"] spInv) (c__law_plain : Cal P w K mg base "_law_plain" 2 ["value"] spInn) (c__law_gcd : Cal P w K mg base "_law_gcd" 1 ["a", "b"] spComm) (c__law_whole : Cal P w K mg base "_law_whole" 1 ["value", "due"] spWh)
    (c_power : Cal P w K mg base "power" 1 ["a", "e", "m"] spPow) (c__law_powered : Cal P w K mg base "_law_powered" 1 ["a", "e", "m"] spPow) (c__law_signs_hold : Cal P w K mg base "_law_signs_hold" 3 ["state"] spSh) (c__law_joined_holds : Cal P w K mg base "_law_joined_holds" 4 ["state"] spSh) :
    FnOk P w K mg base CX0 5 f fd ["script"] (spLaw K) := by
  refine F.ok sc_law (fun vs H Q E h => by obtain ⟨a, ns, rfl, _⟩ := h; rfl) (fun cdv A outer s H vs Q E hr h => ?_)
  obtain ⟨a, ns, rfl, ha, hl, q⟩ := h
  refine ⟨_, (pss_cons (ps_set (i := 1) sc_law.nd rfl (Or.inl rfl) (pe_cal c__law_state (hr.mono (by decide)) rfl (pa_cons (pv 0) pa_nil)))
  (pss_cons (ps_set (i := 2) sc_law.nd rfl (Or.inl rfl) (pe_cal c__law_number (hr.mono (by decide)) rfl (pa_cons (pv 1) pa_nil)))
  (pss_cons (ps_set (i := 3) sc_law.nd rfl (Or.inl rfl) (pe_op op_add pe_int (pe_callB call_abs rfl B.abs (by decide +kernel) (pa_cons (pe_cal c__law_number (hr.mono (by decide)) rfl (pa_cons (pv 1) pa_nil)) pa_nil))))
  (pss_cons (ps_set (i := 4) sc_law.nd rfl (Or.inl rfl) (pe_cal c__law_plain (hr.mono (by decide)) rfl (pa_cons (pe_cal c_inverse (hr.mono (by decide)) rfl (pa_cons (pv 2) (pa_cons (pv 3) pa_nil))) pa_nil)))
  (pss_cons (ps_if (pt_cmpR op_ne (pe_cal c__law_gcd (hr.mono (by decide)) rfl (pa_cons (pv 2) (pa_cons (pv 3) pa_nil))) pe_int (nomark _)) (pss_one (ps_if (pt_cmpR op_notN (pv 4) pe_non (nomark _)) (pss_one (ps_ret pe_bl)) pss_nil)) (pss_one (ps_if (PW.pt (pw_or (pt_not (pt_val (pe_cal c__law_whole (hr.mono (by decide)) rfl (pa_cons (pv 4) (pa_cons (pv 4) pa_nil))))) (pw_or (pt_not (pt_chain op_le op_lt pe_int (pv 4) (pv 3))) (pw_or1 (pt_cmpR op_ne (pe_op op_mod (pe_callTy call_int1 rfl B.int boot_int (pa_cons (pe_op op_sub (pe_op op_mulI (pv 2) (pv 4)) pe_int) pa_nil)) (pv 3)) pe_int (nomark _)))))) (pss_one (ps_ret pe_bl)) pss_nil)))
  (pss_cons (ps_set (i := 5) sc_law.nd rfl (Or.inl rfl) (pe_ix ix_list (pe_lst (pa_cons (pe_cal c__law_take (hr.mono (by decide)) rfl (pa_cons (pv 1) (pa_cons pe_int pa_nil))) (pa_cons (pe_callB call_abs rfl B.abs (by decide +kernel) (pa_cons (pe_cal c__law_number (hr.mono (by decide)) rfl (pa_cons (pv 1) pa_nil)) pa_nil)) pa_nil))) (pe_cal c__law_take (hr.mono (by decide)) rfl (pa_cons (pv 1) (pa_cons pe_int pa_nil))) (fun _ _ => rfl)))
  (pss_cons (ps_if (PW.pt (pw_or (pt_not (pt_val (pe_cal c__law_whole (hr.mono (by decide)) rfl (pa_cons (pe_cal c__law_plain (hr.mono (by decide)) rfl (pa_cons (pe_cal c_power (hr.mono (by decide)) rfl (pa_cons (pv 2) (pa_cons (pv 5) (pa_cons (pv 3) pa_nil)))) pa_nil)) (pa_cons (pe_cal c__law_powered (hr.mono (by decide)) rfl (pa_cons (pv 2) (pa_cons (pv 5) (pa_cons (pv 3) pa_nil)))) pa_nil))))) (pw_or1 (pt_cmpR op_ne (pe_cal c__law_plain (hr.mono (by decide)) rfl (pa_cons (pe_cal c_power (hr.mono (by decide)) rfl (pa_cons (pv 2) (pa_cons pe_int (pa_cons pe_int pa_nil)))) pa_nil)) pe_int (nomark _))))) (pss_one (ps_ret pe_bl)) pss_nil)
  (pss_one (ps_ret (pe_and (pe_cal c__law_signs_hold (hr.mono (by decide)) rfl (pa_cons (pv 1) pa_nil)) (pe_one (pe_cal c__law_joined_holds (hr.mono (by decide)) rfl (pa_cons (pv 1) pa_nil))))))))))))), ?_⟩
  have z40 : ∀ n : Int, (n.natAbs : Int) ≤ T40 → Sz 149 n := fun n h => Int.ofNat_lt.mp (Int.lt_of_le_of_lt h (show T40 < ((2 ^ 149 : Nat) : Int) by decide +kernel))
  walk_at "nx"
  refine ⟨a, ns, rfl, ha, hl, fun st x0 y0 H1 s1 np1 h1 => ?_⟩
  walk_at "nx"
  refine ⟨st, _, _, rfl, h1, fun n x2 y2 H2 b2 h2 hn => ?_⟩
  have zn := z40 n hn
  walk_at "nx"
  refine ⟨st, _, _, rfl, h2, fun m' x3 y3 H3 b3 h3 hm => ?_⟩
  have zm' := z40 m' hm
  refine ⟨_, rfl, ?_⟩
  rw [iabs]
  obtain ⟨m, em⟩ : ∃ m : Nat, 1 + (m'.natAbs : Int) = (m : Int) := ⟨1 + m'.natAbs, by omega⟩
  rw [em]
  have m0 : 0 < m := by omega
  have zm : Sz 150 (m : Int) := by
    have e : (2 : Nat) ^ 150 = 2 ^ 149 * 2 := Nat.pow_succ ..
    unfold Sz at zm' ⊢
    rw [e]
    generalize (2 : Nat) ^ 149 = X at *
    omega
  clear zm' hm b3 b2 em h1 h2
  show tSeq _ _ _ _ _
  refine seq_cut (fun σ H4 => ∃ s4, σ = [some (.ref a), some (.ref st), some (.int n), some (.int (m : Int)), some s4, none] ∧ Same H3 H4 ∧ ((Nat.gcd n.natAbs m ≠ 1 ∧ s4 = .non) ∨ (Nat.gcd n.natAbs m = 1 ∧ ∃ r : Int, s4 = .int r ∧ 0 ≤ r ∧ r < m ∧ (n * r - 1) % m = 0))) (fun R hR => ?_) ?_
  · walk_at "rs"
    refine ⟨n, m, rfl, by omega, zm.le (by decide), fun hg H4 s4 => ⟨_, rfl, .inr rfl, ?_⟩, fun hg r H4 s4 r0 r1 hr => ⟨_, rfl, .inl ⟨_, rfl⟩, ?_⟩⟩
    · rw [gcd_mod (by omega), Int.natAbs_natCast] at hg
      exact hR _ _ ⟨_, rfl, s4, .inl ⟨hg, rfl⟩⟩
    · rw [gcd_mod (by omega), Int.natAbs_natCast] at hg
      exact hR _ _ ⟨_, rfl, s4, .inr ⟨hg, r, rfl, r0, r1, hr⟩⟩
  rintro σ H4 ⟨s4, rfl, sm, hs⟩
  have h4 := sm _ _ h3
  clear h3 sm
  show tSeq _ _ _ _ _
  refine seq_cut (fun σ H5 => σ = [some (.ref a), some (.ref st), some (.int n), some (.int (m : Int)), some s4, none] ∧ H5 = H4) (fun R hR => ?_) ?_
  · walk_at "rs"
    refine ⟨n, m, rfl, ?_⟩
    rw [Int.natAbs_natCast]
    refine ⟨rfl, ?_⟩
    rcases hs with ⟨hg, rfl⟩ | ⟨hg, r, rfl, r0, r1, hr⟩
    · rw [if_neg (fun z => hg (by injection z with z; omega)), if_pos rfl]
      exact hR _ _ ⟨rfl, rfl⟩
    · rw [if_pos (by rw [hg]; rfl)]
      refine ⟨_, _, rfl, _, rfl, ?_⟩
      rw [decide_eq_true rfl, if_neg (by decide)]
      refine ⟨r, rfl, ?_⟩
      rw [if_pos r0]
      refine ⟨r, rfl, ?_⟩
      rw [if_pos r1]
      have zr : Sz 150 r := natS (y := (m : Int)) (by omega) zm
      refine ⟨r, rfl, zn.ok zr (by decide) (by decide), by omega, ?_⟩
      rw [if_pos hr]
      exact hR _ _ ⟨rfl, rfl⟩
  rintro σ H5 ⟨rfl, rfl⟩
  walk_at "nx"
  refine ⟨st, _, _, _, rfl, h4, by decide, by decide +kernel, fun u xa ya u0 u1 => ?_⟩
  refine ⟨st, _, _, rfl, upd_same, fun e' xb yb H6 b6 h6 he => ⟨_, rfl, by decide, fun l nl => ?_⟩⟩
  have sl : st ≠ l := ne_of_none h6 nl
  refine ⟨st, xb, yb, _, rfl, same_upd nl _ _ h6, by decide, by decide +kernel, fun v xc yc v0 v1 => ?_⟩
  obtain ⟨ev, ee, he2⟩ : ∃ ev, atI [V.int u, V.int (if e' < 0 then -e' else e')] v = some ev ∧ ∃ e : Nat, ev = .int (e : Int) := by
    have c : v = 0 ∨ v = 1 := by omega
    rcases c with rfl | rfl
    · exact ⟨_, rfl, u.toNat, by rw [Int.toNat_of_nonneg u0]⟩
    · exact ⟨_, rfl, e'.natAbs, by rw [iabs]⟩
  obtain ⟨e, rfl⟩ := he2
  refine ⟨_, v, rfl, SqL.of (by rw [upd_ne sl.symm, upd_same]), _, ee, ?_⟩
  have h7 : ∀ G : Hp, (upd G st (.lst [.int xc, .int yc])) st = some (.lst [.int xc, .int yc]) := fun G => upd_same
  have h7 := h7 (upd H6 l (.lst [V.int u, V.int (if e' < 0 then -e' else e')]))
  generalize (upd (upd H6 l (.lst [V.int u, V.int (if e' < 0 then -e' else e')])) st (.lst [.int xc, .int yc])) = H7 at *
  clear h6 nl sl ee b6 h4
  walk_at "nx"
  refine ⟨n, m, e, rfl, by omega, zm.le (by decide), _, rfl, .inl ⟨_, rfl⟩, n, m, e, rfl, by omega, zm.le (by decide), _, _, rfl, _, rfl, ?_⟩
  rw [decide_eq_true rfl, if_neg (by decide)]
  refine ⟨n, 1, 0, rfl, by decide, by unfold Sz; decide, _, rfl, .inl ⟨_, rfl⟩, rfl, ?_⟩
  rw [if_pos (by rw [Int.emod_one])]
  refine ⟨st, _, _, rfl, h7, fun x8 y8 H8 b8 h8 => ⟨_, rfl, ?_⟩⟩
  rw [if_pos rfl]
  exact ⟨st, _, _, rfl, h8, fun x9 y9 H9 b9 h9 => q _⟩
end

theorem all_mk {l : PySem.W.OpenLaw} {w : World} {K : PySem.W.Frag} {h : Heap} {mg : Str → Option Value} {fa f__law_take f__law_state f__law_gcd f_combination f_inverse f_power f__odd_sign f_kronecker f__law_inner f__law_plain f__law_whole f__law_number f__law_powered f__law_sign_at f__law_primes f__law_signs_hold f_joined f__law_joined_holds f_law : Addr} (X : K.In h) (G : h.Ns mainGlobals mg) (hfa : mg "law" = some (.ref fa))
    {od__law_take an__law_take od__law_state an__law_state od__law_gcd an__law_gcd od_combination an_combination od_inverse an_inverse od_power an_power od__odd_sign an__odd_sign od_kronecker an_kronecker od__law_inner an__law_inner od__law_plain an__law_plain od__law_whole an__law_whole od__law_number an__law_number od__law_powered an__law_powered od__law_sign_at an__law_sign_at od__law_primes an__law_primes od__law_signs_hold an__law_signs_hold od_joined an_joined od__law_joined_holds an__law_joined_holds od_law an_law : Option Addr} {sl__law_take sl__law_state sl__law_gcd sl_combination sl_inverse sl_power sl__odd_sign sl_kronecker sl__law_inner sl__law_plain sl__law_whole sl__law_number sl__law_powered sl__law_sign_at sl__law_primes sl__law_signs_hold sl_joined sl__law_joined_holds sl_law : Array (Option Value)} {oc__law_take kV__law_take dc__law_take pm__law_take cd__law_take ct__law_take oc__law_state kV__law_state dc__law_state pm__law_state cd__law_state ct__law_state oc__law_gcd kV__law_gcd dc__law_gcd pm__law_gcd cd__law_gcd ct__law_gcd oc_combination kV_combination dc_combination pm_combination cd_combination ct_combination oc_inverse kV_inverse dc_inverse pm_inverse cd_inverse ct_inverse oc_power kV_power dc_power pm_power cd_power ct_power oc__odd_sign kV__odd_sign dc__odd_sign pm__odd_sign cd__odd_sign ct__odd_sign oc_kronecker kV_kronecker dc_kronecker pm_kronecker cd_kronecker ct_kronecker oc__law_inner kV__law_inner dc__law_inner pm__law_inner cd__law_inner ct__law_inner oc__law_plain kV__law_plain dc__law_plain pm__law_plain cd__law_plain ct__law_plain oc__law_whole kV__law_whole dc__law_whole pm__law_whole cd__law_whole ct__law_whole oc__law_number kV__law_number dc__law_number pm__law_number cd__law_number ct__law_number oc__law_powered kV__law_powered dc__law_powered pm__law_powered cd__law_powered ct__law_powered oc__law_sign_at kV__law_sign_at dc__law_sign_at pm__law_sign_at cd__law_sign_at ct__law_sign_at oc__law_primes kV__law_primes dc__law_primes pm__law_primes cd__law_primes ct__law_primes oc__law_signs_hold kV__law_signs_hold dc__law_signs_hold pm__law_signs_hold cd__law_signs_hold ct__law_signs_hold oc_joined kV_joined dc_joined pm_joined cd_joined ct_joined oc__law_joined_holds kV__law_joined_holds dc__law_joined_holds pm__law_joined_holds cd__law_joined_holds ct__law_joined_holds oc_law kV_law dc_law pm_law cd_law ct_law : Value}
    (a__law_take : PySem.W.nsIn K mainGlobals "_law_take" = some (some (.ref f__law_take)))
    (l__law_take : K.lookup f__law_take = some ⟨oc__law_take, od__law_take, .func (PySem.W.fnOf "_law_take" "_law_take" (defArgs s__law_take) (defBody s__law_take) (defScope s__law_take) .none kV__law_take dc__law_take pm__law_take an__law_take cd__law_take ct__law_take), sl__law_take⟩)
    (c__law_take : PySem.W.codeIn K cd__law_take "_law_take" = true)
    (k__law_take : PySem.W.keepIn K (.ref f__law_take) = true)
    (a__law_state : PySem.W.nsIn K mainGlobals "_law_state" = some (some (.ref f__law_state)))
    (l__law_state : K.lookup f__law_state = some ⟨oc__law_state, od__law_state, .func (PySem.W.fnOf "_law_state" "_law_state" (defArgs s__law_state) (defBody s__law_state) (defScope s__law_state) .none kV__law_state dc__law_state pm__law_state an__law_state cd__law_state ct__law_state), sl__law_state⟩)
    (c__law_state : PySem.W.codeIn K cd__law_state "_law_state" = true)
    (k__law_state : PySem.W.keepIn K (.ref f__law_state) = true)
    (a__law_gcd : PySem.W.nsIn K mainGlobals "_law_gcd" = some (some (.ref f__law_gcd)))
    (l__law_gcd : K.lookup f__law_gcd = some ⟨oc__law_gcd, od__law_gcd, .func (PySem.W.fnOf "_law_gcd" "_law_gcd" (defArgs s__law_gcd) (defBody s__law_gcd) (defScope s__law_gcd) .none kV__law_gcd dc__law_gcd pm__law_gcd an__law_gcd cd__law_gcd ct__law_gcd), sl__law_gcd⟩)
    (c__law_gcd : PySem.W.codeIn K cd__law_gcd "_law_gcd" = true)
    (k__law_gcd : PySem.W.keepIn K (.ref f__law_gcd) = true)
    (a_combination : PySem.W.nsIn K mainGlobals "combination" = some (some (.ref f_combination)))
    (l_combination : K.lookup f_combination = some ⟨oc_combination, od_combination, .func (PySem.W.fnOf "combination" "combination" (defArgs s_combination) (defBody s_combination) (defScope s_combination) .none kV_combination dc_combination pm_combination an_combination cd_combination ct_combination), sl_combination⟩)
    (c_combination : PySem.W.codeIn K cd_combination "combination" = true)
    (k_combination : PySem.W.keepIn K (.ref f_combination) = true)
    (a_inverse : PySem.W.nsIn K mainGlobals "inverse" = some (some (.ref f_inverse)))
    (l_inverse : K.lookup f_inverse = some ⟨oc_inverse, od_inverse, .func (PySem.W.fnOf "inverse" "inverse" (defArgs s_inverse) (defBody s_inverse) (defScope s_inverse) .none kV_inverse dc_inverse pm_inverse an_inverse cd_inverse ct_inverse), sl_inverse⟩)
    (c_inverse : PySem.W.codeIn K cd_inverse "inverse" = true)
    (k_inverse : PySem.W.keepIn K (.ref f_inverse) = true)
    (a_power : PySem.W.nsIn K mainGlobals "power" = some (some (.ref f_power)))
    (l_power : K.lookup f_power = some ⟨oc_power, od_power, .func (PySem.W.fnOf "power" "power" (defArgs s_power) (defBody s_power) (defScope s_power) .none kV_power dc_power pm_power an_power cd_power ct_power), sl_power⟩)
    (c_power : PySem.W.codeIn K cd_power "power" = true)
    (k_power : PySem.W.keepIn K (.ref f_power) = true)
    (a__odd_sign : PySem.W.nsIn K mainGlobals "_odd_sign" = some (some (.ref f__odd_sign)))
    (l__odd_sign : K.lookup f__odd_sign = some ⟨oc__odd_sign, od__odd_sign, .func (PySem.W.fnOf "_odd_sign" "_odd_sign" (defArgs s__odd_sign) (defBody s__odd_sign) (defScope s__odd_sign) .none kV__odd_sign dc__odd_sign pm__odd_sign an__odd_sign cd__odd_sign ct__odd_sign), sl__odd_sign⟩)
    (c__odd_sign : PySem.W.codeIn K cd__odd_sign "_odd_sign" = true)
    (k__odd_sign : PySem.W.keepIn K (.ref f__odd_sign) = true)
    (a_kronecker : PySem.W.nsIn K mainGlobals "kronecker" = some (some (.ref f_kronecker)))
    (l_kronecker : K.lookup f_kronecker = some ⟨oc_kronecker, od_kronecker, .func (PySem.W.fnOf "kronecker" "kronecker" (defArgs s_kronecker) (defBody s_kronecker) (defScope s_kronecker) .none kV_kronecker dc_kronecker pm_kronecker an_kronecker cd_kronecker ct_kronecker), sl_kronecker⟩)
    (c_kronecker : PySem.W.codeIn K cd_kronecker "kronecker" = true)
    (k_kronecker : PySem.W.keepIn K (.ref f_kronecker) = true)
    (a__law_inner : PySem.W.nsIn K mainGlobals "_law_inner" = some (some (.ref f__law_inner)))
    (l__law_inner : K.lookup f__law_inner = some ⟨oc__law_inner, od__law_inner, .func (PySem.W.fnOf "_law_inner" "_law_inner" (defArgs s__law_inner) (defBody s__law_inner) (defScope s__law_inner) .none kV__law_inner dc__law_inner pm__law_inner an__law_inner cd__law_inner ct__law_inner), sl__law_inner⟩)
    (c__law_inner : PySem.W.codeIn K cd__law_inner "_law_inner" = true)
    (k__law_inner : PySem.W.keepIn K (.ref f__law_inner) = true)
    (a__law_plain : PySem.W.nsIn K mainGlobals "_law_plain" = some (some (.ref f__law_plain)))
    (l__law_plain : K.lookup f__law_plain = some ⟨oc__law_plain, od__law_plain, .func (PySem.W.fnOf "_law_plain" "_law_plain" (defArgs s__law_plain) (defBody s__law_plain) (defScope s__law_plain) .none kV__law_plain dc__law_plain pm__law_plain an__law_plain cd__law_plain ct__law_plain), sl__law_plain⟩)
    (c__law_plain : PySem.W.codeIn K cd__law_plain "_law_plain" = true)
    (k__law_plain : PySem.W.keepIn K (.ref f__law_plain) = true)
    (a__law_whole : PySem.W.nsIn K mainGlobals "_law_whole" = some (some (.ref f__law_whole)))
    (l__law_whole : K.lookup f__law_whole = some ⟨oc__law_whole, od__law_whole, .func (PySem.W.fnOf "_law_whole" "_law_whole" (defArgs s__law_whole) (defBody s__law_whole) (defScope s__law_whole) .none kV__law_whole dc__law_whole pm__law_whole an__law_whole cd__law_whole ct__law_whole), sl__law_whole⟩)
    (c__law_whole : PySem.W.codeIn K cd__law_whole "_law_whole" = true)
    (k__law_whole : PySem.W.keepIn K (.ref f__law_whole) = true)
    (a__law_number : PySem.W.nsIn K mainGlobals "_law_number" = some (some (.ref f__law_number)))
    (l__law_number : K.lookup f__law_number = some ⟨oc__law_number, od__law_number, .func (PySem.W.fnOf "_law_number" "_law_number" (defArgs s__law_number) (defBody s__law_number) (defScope s__law_number) .none kV__law_number dc__law_number pm__law_number an__law_number cd__law_number ct__law_number), sl__law_number⟩)
    (c__law_number : PySem.W.codeIn K cd__law_number "_law_number" = true)
    (k__law_number : PySem.W.keepIn K (.ref f__law_number) = true)
    (a__law_powered : PySem.W.nsIn K mainGlobals "_law_powered" = some (some (.ref f__law_powered)))
    (l__law_powered : K.lookup f__law_powered = some ⟨oc__law_powered, od__law_powered, .func (PySem.W.fnOf "_law_powered" "_law_powered" (defArgs s__law_powered) (defBody s__law_powered) (defScope s__law_powered) .none kV__law_powered dc__law_powered pm__law_powered an__law_powered cd__law_powered ct__law_powered), sl__law_powered⟩)
    (c__law_powered : PySem.W.codeIn K cd__law_powered "_law_powered" = true)
    (k__law_powered : PySem.W.keepIn K (.ref f__law_powered) = true)
    (a__law_sign_at : PySem.W.nsIn K mainGlobals "_law_sign_at" = some (some (.ref f__law_sign_at)))
    (l__law_sign_at : K.lookup f__law_sign_at = some ⟨oc__law_sign_at, od__law_sign_at, .func (PySem.W.fnOf "_law_sign_at" "_law_sign_at" (defArgs s__law_sign_at) (defBody s__law_sign_at) (defScope s__law_sign_at) .none kV__law_sign_at dc__law_sign_at pm__law_sign_at an__law_sign_at cd__law_sign_at ct__law_sign_at), sl__law_sign_at⟩)
    (c__law_sign_at : PySem.W.codeIn K cd__law_sign_at "_law_sign_at" = true)
    (k__law_sign_at : PySem.W.keepIn K (.ref f__law_sign_at) = true)
    (a__law_primes : PySem.W.nsIn K mainGlobals "_law_primes" = some (some (.ref f__law_primes)))
    (l__law_primes : K.lookup f__law_primes = some ⟨oc__law_primes, od__law_primes, .func (PySem.W.fnOf "_law_primes" "_law_primes" (defArgs s__law_primes) (defBody s__law_primes) (defScope s__law_primes) .none kV__law_primes dc__law_primes pm__law_primes an__law_primes cd__law_primes ct__law_primes), sl__law_primes⟩)
    (c__law_primes : PySem.W.codeIn K cd__law_primes "_law_primes" = true)
    (k__law_primes : PySem.W.keepIn K (.ref f__law_primes) = true)
    (a__law_signs_hold : PySem.W.nsIn K mainGlobals "_law_signs_hold" = some (some (.ref f__law_signs_hold)))
    (l__law_signs_hold : K.lookup f__law_signs_hold = some ⟨oc__law_signs_hold, od__law_signs_hold, .func (PySem.W.fnOf "_law_signs_hold" "_law_signs_hold" (defArgs s__law_signs_hold) (defBody s__law_signs_hold) (defScope s__law_signs_hold) .none kV__law_signs_hold dc__law_signs_hold pm__law_signs_hold an__law_signs_hold cd__law_signs_hold ct__law_signs_hold), sl__law_signs_hold⟩)
    (c__law_signs_hold : PySem.W.codeIn K cd__law_signs_hold "_law_signs_hold" = true)
    (k__law_signs_hold : PySem.W.keepIn K (.ref f__law_signs_hold) = true)
    (a_joined : PySem.W.nsIn K mainGlobals "joined" = some (some (.ref f_joined)))
    (l_joined : K.lookup f_joined = some ⟨oc_joined, od_joined, .func (PySem.W.fnOf "joined" "joined" (defArgs s_joined) (defBody s_joined) (defScope s_joined) .none kV_joined dc_joined pm_joined an_joined cd_joined ct_joined), sl_joined⟩)
    (c_joined : PySem.W.codeIn K cd_joined "joined" = true)
    (k_joined : PySem.W.keepIn K (.ref f_joined) = true)
    (a__law_joined_holds : PySem.W.nsIn K mainGlobals "_law_joined_holds" = some (some (.ref f__law_joined_holds)))
    (l__law_joined_holds : K.lookup f__law_joined_holds = some ⟨oc__law_joined_holds, od__law_joined_holds, .func (PySem.W.fnOf "_law_joined_holds" "_law_joined_holds" (defArgs s__law_joined_holds) (defBody s__law_joined_holds) (defScope s__law_joined_holds) .none kV__law_joined_holds dc__law_joined_holds pm__law_joined_holds an__law_joined_holds cd__law_joined_holds ct__law_joined_holds), sl__law_joined_holds⟩)
    (c__law_joined_holds : PySem.W.codeIn K cd__law_joined_holds "_law_joined_holds" = true)
    (k__law_joined_holds : PySem.W.keepIn K (.ref f__law_joined_holds) = true)
    (a_law : PySem.W.nsIn K mainGlobals "law" = some (some (.ref f_law)))
    (l_law : K.lookup f_law = some ⟨oc_law, od_law, .func (PySem.W.fnOf "law" "law" (defArgs s_law) (defBody s_law) (defScope s_law) .none kV_law dc_law pm_law an_law cd_law ct_law), sl_law⟩)
    (c_law : PySem.W.codeIn K cd_law "law" = true)
    (k_law : PySem.W.keepIn K (.ref f_law) = true)
    (z_abs : PySem.W.nsIn K mainGlobals "abs" = some none)
    (z_int : PySem.W.nsIn K mainGlobals "int" = some none)
    (z_bool : PySem.W.nsIn K mainGlobals "bool" = some none)
    (z_str : PySem.W.nsIn K mainGlobals "str" = some none)
    (z_tuple : PySem.W.nsIn K mainGlobals "tuple" = some none)
    (z_max : PySem.W.nsIn K mainGlobals "max" = some none)
    (z_range : PySem.W.nsIn K mainGlobals "range" = some none)
    (z_isinstance : PySem.W.nsIn K mainGlobals "isinstance" = some none)
    (z_len : PySem.W.nsIn K mainGlobals "len" = some none)
    (z_all : PySem.W.nsIn K mainGlobals "all" = some none)
    (z_divmod : PySem.W.nsIn K mainGlobals "divmod" = some none) :
    ∃ fd : FuncData, (∀ (s : Shared) (v : Value), BindsTo s fd ⟨[v], []⟩ [("script", v)]) ∧ ∀ base : Heap, K.In base → base.Ns mainGlobals mg → FnOk l.prog w K mg base CX0 5 fa fd ["script"] (spLaw K) := by
  have e := hfa.symm.trans (PySem.W.mg_of X G a_law)
  cases e
  have B : Bl mg := { abs := PySem.W.mg_none_of X G z_abs, int := PySem.W.mg_none_of X G z_int, bool := PySem.W.mg_none_of X G z_bool, str := PySem.W.mg_none_of X G z_str, tuple := PySem.W.mg_none_of X G z_tuple, max := PySem.W.mg_none_of X G z_max, range := PySem.W.mg_none_of X G z_range, isinstance := PySem.W.mg_none_of X G z_isinstance, len := PySem.W.mg_none_of X G z_len, all := PySem.W.mg_none_of X G z_all, divmod := PySem.W.mg_none_of X G z_divmod }
  have d__law_take : Dn K mg "_law_take" s__law_take ["state", "m"] := dn_mk X G a__law_take l__law_take c__law_take k__law_take fun _ _ _ _ _ _ us hl => match us, hl with | [_, _], _ => rfl
  have d__law_state : Dn K mg "_law_state" s__law_state ["script"] := dn_mk X G a__law_state l__law_state c__law_state k__law_state fun _ _ _ _ _ _ us hl => match us, hl with | [_], _ => rfl
  have d__law_gcd : Dn K mg "_law_gcd" s__law_gcd ["a", "b"] := dn_mk X G a__law_gcd l__law_gcd c__law_gcd k__law_gcd fun _ _ _ _ _ _ us hl => match us, hl with | [_, _], _ => rfl
  have d_combination : Dn K mg "combination" s_combination ["a", "b"] := dn_mk X G a_combination l_combination c_combination k_combination fun _ _ _ _ _ _ us hl => match us, hl with | [_, _], _ => rfl
  have d_inverse : Dn K mg "inverse" s_inverse ["a", "m"] := dn_mk X G a_inverse l_inverse c_inverse k_inverse fun _ _ _ _ _ _ us hl => match us, hl with | [_, _], _ => rfl
  have d_power : Dn K mg "power" s_power ["a", "e", "m"] := dn_mk X G a_power l_power c_power k_power fun _ _ _ _ _ _ us hl => match us, hl with | [_, _, _], _ => rfl
  have d__odd_sign : Dn K mg "_odd_sign" s__odd_sign ["a", "n"] := dn_mk X G a__odd_sign l__odd_sign c__odd_sign k__odd_sign fun _ _ _ _ _ _ us hl => match us, hl with | [_, _], _ => rfl
  have d_kronecker : Dn K mg "kronecker" s_kronecker ["a", "n"] := dn_mk X G a_kronecker l_kronecker c_kronecker k_kronecker fun _ _ _ _ _ _ us hl => match us, hl with | [_, _], _ => rfl
  have d__law_inner : Dn K mg "_law_inner" s__law_inner ["value"] := dn_mk X G a__law_inner l__law_inner c__law_inner k__law_inner fun _ _ _ _ _ _ us hl => match us, hl with | [_], _ => rfl
  have d__law_plain : Dn K mg "_law_plain" s__law_plain ["value"] := dn_mk X G a__law_plain l__law_plain c__law_plain k__law_plain fun _ _ _ _ _ _ us hl => match us, hl with | [_], _ => rfl
  have d__law_whole : Dn K mg "_law_whole" s__law_whole ["value", "due"] := dn_mk X G a__law_whole l__law_whole c__law_whole k__law_whole fun _ _ _ _ _ _ us hl => match us, hl with | [_, _], _ => rfl
  have d__law_number : Dn K mg "_law_number" s__law_number ["state"] := dn_mk X G a__law_number l__law_number c__law_number k__law_number fun _ _ _ _ _ _ us hl => match us, hl with | [_], _ => rfl
  have d__law_powered : Dn K mg "_law_powered" s__law_powered ["a", "e", "m"] := dn_mk X G a__law_powered l__law_powered c__law_powered k__law_powered fun _ _ _ _ _ _ us hl => match us, hl with | [_, _, _], _ => rfl
  have d__law_sign_at : Dn K mg "_law_sign_at" s__law_sign_at ["a", "p"] := dn_mk X G a__law_sign_at l__law_sign_at c__law_sign_at k__law_sign_at fun _ _ _ _ _ _ us hl => match us, hl with | [_, _], _ => rfl
  have d__law_primes : Dn K mg "_law_primes" s__law_primes ["most"] := dn_mk X G a__law_primes l__law_primes c__law_primes k__law_primes fun _ _ _ _ _ _ us hl => match us, hl with | [_], _ => rfl
  have d__law_signs_hold : Dn K mg "_law_signs_hold" s__law_signs_hold ["state"] := dn_mk X G a__law_signs_hold l__law_signs_hold c__law_signs_hold k__law_signs_hold fun _ _ _ _ _ _ us hl => match us, hl with | [_], _ => rfl
  have d_joined : Dn K mg "joined" s_joined ["pairs"] := dn_mk X G a_joined l_joined c_joined k_joined fun _ _ _ _ _ _ us hl => match us, hl with | [_], _ => rfl
  have d__law_joined_holds : Dn K mg "_law_joined_holds" s__law_joined_holds ["state"] := dn_mk X G a__law_joined_holds l__law_joined_holds c__law_joined_holds k__law_joined_holds fun _ _ _ _ _ _ us hl => match us, hl with | [_], _ => rfl
  have d_law : Dn K mg "law" s_law ["script"] := dn_mk X G a_law l_law c_law k_law fun _ _ _ _ _ _ us hl => match us, hl with | [_], _ => rfl
  refine ⟨PySem.W.fnOf "law" "law" (defArgs s_law) (defBody s_law) (defScope s_law) .none kV_law dc_law pm_law an_law cd_law ct_law, fun s v => .of_eq rfl, fun base _ _ => ?_⟩
  have r_take := cal_take (P := l.prog) (w := w) (base := base) d__law_take B
  have r_state := cal_state (P := l.prog) (w := w) (base := base) d__law_state B
  have r_common := cal_common (P := l.prog) (w := w) (base := base) d__law_gcd B
  have r_comb := cal_comb (P := l.prog) (w := w) (base := base) d_combination B
  have r_inv := cal_inv (P := l.prog) (w := w) (base := base) d_inverse B
  have r_pow := cal_pow (P := l.prog) (w := w) (base := base) d_power B
  have r_odd := cal_odd (P := l.prog) (w := w) (base := base) d__odd_sign B
  have r_kro := cal_kro (P := l.prog) (w := w) (base := base) d_kronecker B r_odd
  have r_inn := cal_inn (P := l.prog) (w := w) (base := base) d__law_inner B
  have r_innT := cal_innT (P := l.prog) (w := w) (base := base) d__law_inner B r_inn
  have r_pl1 := cal_pl1 (P := l.prog) (w := w) (base := base) d__law_plain B r_inn
  have r_plT := cal_plT (P := l.prog) (w := w) (base := base) d__law_plain B r_innT
  have r_wh := cal_wh (P := l.prog) (w := w) (base := base) d__law_whole B
  have r_num := cal_num (P := l.prog) (w := w) (base := base) d__law_number B r_take
  have r_lpow := cal_lpow (P := l.prog) (w := w) (base := base) d__law_powered B
  have r_sa := cal_sa (P := l.prog) (w := w) (base := base) d__law_sign_at B
  have r_pr := cal_pr (P := l.prog) (w := w) (base := base) d__law_primes B
  have r_sh := cal_sh (P := l.prog) (w := w) (base := base) d__law_signs_hold B r_num r_take r_pr r_sa r_kro r_pl1 r_wh
  have r_jo := cal_jo (P := l.prog) (w := w) (base := base) d_joined B r_comb
  have r_innC := cal_innC (P := l.prog) (w := w) (base := base) d__law_inner B r_inn
  have r_plC := cal_plC (P := l.prog) (w := w) (base := base) d__law_plain B r_innC
  have r_jh := cal_jh (P := l.prog) (w := w) (base := base) d__law_joined_holds B r_num r_take r_common r_jo r_plC r_wh
  exact ok_law (P := l.prog) (w := w) (base := base) (fun_mk (st := s_law) l_law c_law k_law) B r_state r_take r_num r_inv r_pl1 r_common r_wh r_pow r_lpow r_sh r_jh
theorem walk {l : PySem.W.OpenLaw} {q : Program} {loose : List Str} {XP : (Str → Option Value) → Heap → Prop} {YP : World → Heap → Prop} {d : DefRec} {K : Params → PySem.W.Frag} (hn : l.most = some 63) (hdf : d.params.defaults = []) (hY : ∀ (w : World) (h : Heap), YP w h → (K w.params).In h)
    (F : ∀ (w : World) (mg : Str → Option Value) (fa : Addr) (h : Heap), (K w.params).In h → h.Ns mainGlobals mg → mg d.name = some (.ref fa) → ∃ fd : FuncData, (∀ (s : Shared) (u : Value), BindsTo s fd ⟨[u], []⟩ [("script", u)]) ∧ ∀ base : Heap, (K w.params).In base → base.Ns mainGlobals mg → FnOk l.prog w (K w.params) mg base CX0 5 fa fd ["script"] (spLaw (K w.params))) :
    PySem.W.WalkO q loose XP YP l.row.toRowW d [] (fun f vs => PySem.call f vs) :=
  L2.walk_of (n := 63) (k := 5) (x := "script") (CX := fun _ => CX0) (sp := fun w => spLaw (K w.params)) hn (by decide) hdf ⟨rfl, by decide, by decide⟩ hY F (fun _ _ a ns hl _ hS => ⟨a, ns, rfl, hS, hl, fun _ => rfl⟩) fun _ _ _ _ _ z => z

end L01
open PySem PySem.W PyProof.Rows
set_option maxRecDepth 100000 in
set_option maxHeartbeats 0 in
theorem PySem.Challenge.cw_classledger_k01_moduli_and_signs_holds : PySem.Challenge.rw_classledger_k01_moduli_and_signs.Holds := by
  w_on; o_law; k_head; (case hw => w_witness2)
  k_fill
  refine L01.walk (l := PySem.Challenge.rw_classledger_k01_moduli_and_signs) rfl rfl (fun w h Y => PySem.W.kIn_of Y) ?F
  case F =>
    intro w mg fa h KX G hmg
    refine' L01.all_mk KX G hmg ?a__law_take ?l__law_take ?c__law_take ?k__law_take ?a__law_state ?l__law_state ?c__law_state ?k__law_state ?a__law_gcd ?l__law_gcd ?c__law_gcd ?k__law_gcd ?a_combination ?l_combination ?c_combination ?k_combination ?a_inverse ?l_inverse ?c_inverse ?k_inverse ?a_power ?l_power ?c_power ?k_power ?a__odd_sign ?l__odd_sign ?c__odd_sign ?k__odd_sign ?a_kronecker ?l_kronecker ?c_kronecker ?k_kronecker ?a__law_inner ?l__law_inner ?c__law_inner ?k__law_inner ?a__law_plain ?l__law_plain ?c__law_plain ?k__law_plain ?a__law_whole ?l__law_whole ?c__law_whole ?k__law_whole ?a__law_number ?l__law_number ?c__law_number ?k__law_number ?a__law_powered ?l__law_powered ?c__law_powered ?k__law_powered ?a__law_sign_at ?l__law_sign_at ?c__law_sign_at ?k__law_sign_at ?a__law_primes ?l__law_primes ?c__law_primes ?k__law_primes ?a__law_signs_hold ?l__law_signs_hold ?c__law_signs_hold ?k__law_signs_hold ?a_joined ?l_joined ?c_joined ?k_joined ?a__law_joined_holds ?l__law_joined_holds ?c__law_joined_holds ?k__law_joined_holds ?a_law ?l_law ?c_law ?k_law ?z_abs ?z_int ?z_bool ?z_str ?z_tuple ?z_max ?z_range ?z_isinstance ?z_len ?z_all ?z_divmod
    (case a__law_take => k_is); (case l__law_take => k_is); (case c__law_take => k_is); (case k__law_take => k_is)
    (case a__law_state => k_is); (case l__law_state => k_is); (case c__law_state => k_is); (case k__law_state => k_is)
    (case a__law_gcd => k_is); (case l__law_gcd => k_is); (case c__law_gcd => k_is); (case k__law_gcd => k_is)
    (case a_combination => k_is); (case l_combination => k_is); (case c_combination => k_is); (case k_combination => k_is)
    (case a_inverse => k_is); (case l_inverse => k_is); (case c_inverse => k_is); (case k_inverse => k_is)
    (case a_power => k_is); (case l_power => k_is); (case c_power => k_is); (case k_power => k_is)
    (case a__odd_sign => k_is); (case l__odd_sign => k_is); (case c__odd_sign => k_is); (case k__odd_sign => k_is)
    (case a_kronecker => k_is); (case l_kronecker => k_is); (case c_kronecker => k_is); (case k_kronecker => k_is)
    (case a__law_inner => k_is); (case l__law_inner => k_is); (case c__law_inner => k_is); (case k__law_inner => k_is)
    (case a__law_plain => k_is); (case l__law_plain => k_is); (case c__law_plain => k_is); (case k__law_plain => k_is)
    (case a__law_whole => k_is); (case l__law_whole => k_is); (case c__law_whole => k_is); (case k__law_whole => k_is)
    (case a__law_number => k_is); (case l__law_number => k_is); (case c__law_number => k_is); (case k__law_number => k_is)
    (case a__law_powered => k_is); (case l__law_powered => k_is); (case c__law_powered => k_is); (case k__law_powered => k_is)
    (case a__law_sign_at => k_is); (case l__law_sign_at => k_is); (case c__law_sign_at => k_is); (case k__law_sign_at => k_is)
    (case a__law_primes => k_is); (case l__law_primes => k_is); (case c__law_primes => k_is); (case k__law_primes => k_is)
    (case a__law_signs_hold => k_is); (case l__law_signs_hold => k_is); (case c__law_signs_hold => k_is); (case k__law_signs_hold => k_is)
    (case a_joined => k_is); (case l_joined => k_is); (case c_joined => k_is); (case k_joined => k_is)
    (case a__law_joined_holds => k_is); (case l__law_joined_holds => k_is); (case c__law_joined_holds => k_is); (case k__law_joined_holds => k_is)
    (case a_law => k_is); (case l_law => k_is); (case c_law => k_is); (case k_law => k_is)
    (case z_abs => k_is); (case z_int => k_is); (case z_bool => k_is); (case z_str => k_is)
    (case z_tuple => k_is); (case z_max => k_is); (case z_range => k_is); (case z_isinstance => k_is)
    (case z_len => k_is); (case z_all => k_is); (case z_divmod => k_is)
