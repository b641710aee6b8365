import PyProof.Rows.All
import Wide.All
import OpenK.AllK
import Wide.FinOn
import HandS.ForMost
import HandS.Exc
import HandS.ExcOwn
import HandS.ExcInit
import HandS.TryOnly
import HandS.TryMany
import HandS.WordsExc
import HandS.Gcd
import HandS.Wide
import HandS.WideMore
import HandS.WideBits
import HandS.IsInst
import HandS.Style
import HandS.Flow
import HandS.SortRule
import HandS.SortInts
import HandS.Conv
import HandS.ExcField
import KE.SortData
import HandS.More
import KE.BitLaws
import KE.GoesEnum
import KE.GoesMore
import PyProof.WalksMore
import HandS.TupAny
import HandS.Zip
import HandS.Rev
import HandS.TupMul
import HandS.Deep
import KE.DataMinMax
import KE.IntBitsLaws
import PyProof.SliceList
import KE.GoesZip
import KE.GoesNew
import HandS.SetFor
import HandS.Strs
import HandS.List
import HandS.Dict
import KE.KRevIter
import HandS.RevRange
import KE.KRevSl
import PyProof.StrOps2
import PyProof.FitsStr
import PySem.Challenge.RW_classledger_k14_rows_and_kernels
set_option Elab.async false
set_option linter.all false
set_option maxRecDepth 100000
set_option maxHeartbeats 4000000
namespace CB
open PySem PySem.Spec PyProof.Rows L2
/-! ### operators of any size -/
section
variable {X : Cx}
theorem op_mulI : OpR X (binaryOp .Mult) (rI IntMulOk fun i j => .int (i * j)) := opI fun _ _ _ _ _ _ _ hc q => mul_int q hc
theorem iop_mulI : OpR X (inplaceOp .Mult) (rI IntMulOk fun i j => .int (i * j)) := opI fun _ _ _ _ _ _ _ hc q => imul_int q hc
/-- math.isqrt of an int below 2 ^ 13000 -/
def rIsqrt : List V → Hp → VK → Prop := fun vs H Q => ∃ a : Int, vs = [.int a] ∧ 0 ≤ a ∧ a < 2 ^ 13000 ∧ Q (.int ((Float64.isqrt a.toNat : Nat) : Int)) H
theorem log_lt {n k : Nat} (h : n < 2 ^ (k + 1)) : n.log2 ≤ k := PySem.W.mg_log h
theorem cr_isqrt : CallR X (.builtin "math.isqrt") rIsqrt := by
  intro pins s σ H vs us Q I r h
  obtain ⟨a, rfl, h0, h1, q⟩ := h
  obtain ⟨u, rfl, ru⟩ := vals1 r
  obtain ⟨t, rfl⟩ := ru
  have hl : a.toNat.log2 ≤ 12999 := log_lt (by
    have e : ((2 : Int) ^ 13000) = ((2 ^ 13000 : Nat) : Int) := by rw [Int.natCast_pow]; rfl
    rw [e] at h1
    show a.toNat < 2 ^ 13000
    omega)
  exact call_function_meets PySem.W.MGF.kind_isqrt PySem.W.MGF.plain_isqrt PySem.W.MGF.entry_isqrt (PySem.W.MGF.args_isqrt _) (PySem.W.mg_run_isqrt a t (by omega) (by omega) (by omega)).meets
    ⟨.int _, H, I.tok _, ⟨_, rfl⟩, q⟩
theorem isqrt_spec (n : Nat) : Float64.isqrt n * Float64.isqrt n ≤ n ∧ n < (Float64.isqrt n + 1) * (Float64.isqrt n + 1) := PySem.Float64.isqrt_spec n
/-! ### a < b < c < d -/
def tChain3 (r r' r'' : R2) (ta tb tc td : TE) : TE := fun σ H Q => ta σ H fun x H1 => tb σ H1 fun y H2 => r x y H2 fun z H3 => ∃ k, z = .bl k ∧
  (if k = true then tc σ H3 fun y' H4 => r' y y' H4 fun z' H5 => ∃ k', z' = .bl k' ∧ (if k' = true then td σ H5 fun w' H6 => r'' y' w' H6 Q else Q (.bl false) H5) else Q (.bl false) H3)
variable {a b c d : Expr} {ta tb tc td : TE} {pos : Pos}
theorem pt_chain3 {o1 o2 o3 : CmpOp} {r r' r'' : R2} (ho : OpR X (compareOp o1) r) (ho' : OpR X (compareOp o2) r') (ho'' : OpR X (compareOp o3) r'') (ha : PE X a ta) (hb : PE X b tb) (hc : PE X c tc) (hd : PE X d td)
    (hm : lastMarks [o1, o2, o3] [b, c, d] = false := by with_unfolding_all rfl) : PT X (.Compare a [o1, o2, o3] [b, c, d] pos) (tTest (tChain3 r r' r'' ta tb tc td)) := by
  refine ⟨fun pins s σ H Q I h => ?_⟩
  refine isTrue_chain (thn (ha.run pins s σ H _ I h) fun v s1 ⟨x, H1, I1, r1, q1⟩ => test_link (thn (hb.run pins s1 σ H1 _ I1 q1) fun u s2 ⟨y, H2, I2, r2, q2⟩ =>
    thn (ho pins s2 σ H2 x y v u _ I2 r1 r2 q2) fun d1 s3 ⟨z, H3, I3, r3, k, e, q3⟩ => ?_)) hm
  subst e
  cases r3
  refine wpAny_truthy_bool ?_
  cases k with
  | false =>
    obtain ⟨k', e', q'⟩ := q3
    cases e'
    exact ite_ff ⟨H3, I3, q'⟩
  | true =>
    refine ite_tt (test_link (thn (hc.run pins s3 σ H3 _ I3 q3) fun u' s4 ⟨y', H4, I4, r4, q4⟩ => thn (ho' pins s4 σ H4 y y' u u' _ I4 r2 r4 q4) fun d2 s5 ⟨z2, H5, I5, r5, k2, e2, q5⟩ => ?_))
    subst e2
    cases r5
    refine wpAny_truthy_bool ?_
    cases k2 with
    | false =>
      obtain ⟨k', e', q'⟩ := q5
      cases e'
      exact ite_ff ⟨H5, I5, q'⟩
    | true =>
      refine ite_tt (test_last (thn (hd.run pins s5 σ H5 _ I5 q5) fun w' s6 ⟨z3, H6, I6, r6, q6⟩ => thn (ho'' pins s6 σ H6 y' z3 u' w' _ I6 r4 r6 q6) fun d3 s7 ⟨z4, H7, I7, r7, k4, e4, q7⟩ => ?_))
      subst e4
      cases r7
      exact wpAny_truthy_bool ⟨H7, I7, q7⟩
end
/-! ### a def that a caller calls by its name -/
structure Cal (P : Program) (w : World) (K : PySem.W.Frag) (mg : Str → Option Value) (base : Heap) (x : Str) (k : Nat) (ps : List Str) (sp : Sp) : Prop where
  ok : ∃ f fd, FnOk P w K mg base CX0 k f fd ps sp ∧ mg x = some (.ref f) ∧ PySem.W.keepIn K (.ref f) = true ∧ Binds K fd ps []
section
variable {X : Cx} {k : Nat} {ps : List Str} {sp : Sp} {x : Str} {p pos : Pos} {e : Expr} {es : List Expr} {t : TA}
theorem pe_cal (C : Cal X.prog X.w X.K X.mg X.base x k ps sp) (hr : Room k X.A) (hg : Gl X x) (ha : PA X (e :: es) t) (hdb : (x == ("__debug__" : Str)) = false := by decide)
    (he : starEach (e :: es) X.env = (false, eval e X.env) :: starEach es X.env := by rfl) (hpl : (backTo pos (starEach es X.env)).any (·.1) = false := by rfl) : PE X (.Call (.Name x p) (e :: es) [] pos) (tCall sp [] E0 t) := by
  obtain ⟨f, fd, F, hm, hk, hb⟩ := C.ok
  exact pe_call F hr hg hm hk hb .nil pass0 ha hdb he hpl
end
/-! ### readings, unfolded -/
section
variable {σ : L2.St} {H : Hp} {Q : VK} {QT : Bool → Hp → Prop} {QA : List V → Hp → Prop} {D : Ends} {i j : Nat} {v x y : V} {ta tb tc td : TE} {tA tB' : TT} {t u : TS} {tr : TA} {K : PySem.W.Frag}
theorem rd_var : tVar i σ H Q = ∃ v, σ[i]? = some (some v) ∧ Q v H := rfl
theorem rd_C : tC v σ H Q = Q v H := rfl
theorem rd_op {r : R2} : tOp r ta tb σ H Q = ta σ H fun x H1 => tb σ H1 fun y H2 => r x y H2 Q := rfl
theorem rd_un {r : V → Hp → VK → Prop} : tUn r ta σ H Q = ta σ H fun x H1 => r x H1 Q := rfl
theorem rd_I {C : Int → Int → Prop} {g : Int → Int → V} : rI C g x y H Q = ∃ i j, x = .int i ∧ y = .int j ∧ C i j ∧ Q (g i j) H := rfl
theorem rd_I0 {g : Int → Int → V} : rI0 g x y H Q = ∃ i j, x = .int i ∧ y = .int j ∧ Q (g i j) H := rfl
theorem rd_U {g : Int → V} : rU g x H Q = ∃ i, x = .int i ∧ Q (g i) H := rfl
theorem rd_Eq : rEq x y H Q = (scal x y = true ∧ Q (.bl (decide (x = y))) H) := rfl
theorem rd_Ne : rNe x y H Q = (scal x y = true ∧ Q (.bl (!decide (x = y))) H) := rfl
theorem rd_test : tTest ta σ H QT = ta σ H fun x H' => ∃ k, x = .bl k ∧ QT k H' := rfl
theorem rd_B : L2.tB ta σ H QT = ta σ H fun x H' => ∃ k, x = .bl k ∧ QT k H' := rfl
theorem rd_and {s t : TT} : tAnd s t σ H QT = s σ H fun c H1 => if c = true then t σ H1 QT else QT false H1 := rfl
theorem rd_or {s t : TT} : tOr s t σ H QT = s σ H fun c H1 => if c = true then QT true H1 else t σ H1 QT := rfl
theorem rd_not {s : TT} : tNot s σ H QT = s σ H fun c H1 => QT (!c) H1 := rfl
theorem rd_andV : tAndV ta tb σ H Q = ta σ H fun x H1 => ∃ c, x = .bl c ∧ if c = true then tb σ H1 Q else Q (.bl false) H1 := rfl
theorem rd_orV : tOrV ta tb σ H Q = ta σ H fun x H1 => ∃ c, x = .bl c ∧ if c = true then Q (.bl true) H1 else tb σ H1 Q := rfl
theorem rd_notV : tNotV ta σ H Q = ta σ H fun x H1 => ∃ c, x = .bl c ∧ Q (.bl (!c)) H1 := rfl
theorem rd_if {c : TT} : tIf c ta tb σ H Q = c σ H fun b H1 => if b = true then ta σ H1 Q else tb σ H1 Q := rfl
theorem rd_chain {r r' : R2} : tChain r r' ta tb tc σ H Q = ta σ H fun x H1 => tb σ H1 fun y H2 => r x y H2 fun z H3 => ∃ k, z = .bl k ∧ (if k = true then tc σ H3 fun w' H4 => r' y w' H4 Q else Q (.bl false) H3) := rfl
theorem rd_chain3 {r r' r'' : R2} : tChain3 r r' r'' ta tb tc td σ H Q = ta σ H fun x H1 => tb σ H1 fun y H2 => r x y H2 fun z H3 => ∃ k, z = .bl k ∧
  (if k = true then tc σ H3 fun y' H4 => r' y y' H4 fun z' H5 => ∃ k', z' = .bl k' ∧ (if k' = true then td σ H5 fun w' H6 => r'' y' w' H6 Q else Q (.bl false) H5) else Q (.bl false) H3) := rfl
theorem rd_next : tNext D σ H = D.nx σ H := rfl
theorem rd_seq : tSeq t u D σ H = t { D with nx := u D } σ H := rfl
theorem rd_drop : tDrop ta D σ H = ta σ H fun _ H1 => D.nx σ H1 := rfl
theorem rd_ret : tRet ta D σ H = ta σ H D.rt := rfl
theorem rd_retN : tRetN D σ H = D.rt .non H := rfl
theorem rd_break : tBreak D σ H = D.bk σ H := rfl
theorem rd_cont : tCont D σ H = D.ct σ H := rfl
theorem rd_ifS {c : TT} : tIfS c t u D σ H = c σ H fun b H1 => if b = true then t D σ H1 else u D σ H1 := rfl
theorem rd_asg {g : TG} : tAsg ta g D σ H = ta σ H fun x H1 => g x σ H1 D.nx := rfl
theorem rd_name {QS : L2.St → Hp → Prop} : gName i v σ H QS = QS (σ.set i (some v)) H := rfl
theorem rd_gsub {to ti : TE} {s : TSet} {QS : L2.St → Hp → Prop} : gSub to ti s v σ H QS = to σ H fun o H1 => ti σ H1 fun i H2 => s o i v H2 fun H3 => QS σ H3 := rfl
theorem rd_gtup {n : Nat} {g : TGs} {QS : L2.St → Hp → Prop} : gTup K n g v σ H QS = ∃ a xs, v = .ref a ∧ SqT K H a xs ∧ xs.length = n ∧ g xs σ H QS := rfl
theorem rd_gcons {g : TG} {gs : TGs} {vs : List V} {QS : L2.St → Hp → Prop} : gCons g gs vs σ H QS = ∃ v r, vs = v :: r ∧ g v σ H fun σ' H' => gs r σ' H' QS := rfl
theorem rd_gnil {vs : List V} {QS : L2.St → Hp → Prop} : gNil vs σ H QS = (vs = [] ∧ QS σ H) := rfl
theorem rd_par : tPar i j tr D σ H = tr σ H fun vs H1 => ∃ v w, vs = [v, w] ∧ D.nx ((σ.set i (some v)).set j (some w)) H1 := rfl
theorem rd_aug {te : TE} {ti : TIp} : tAug i te ti D σ H = ∃ x, σ[i]? = some (some x) ∧ te σ H fun y H1 => ti x y H1 fun z H2 => D.nx (σ.set i (some z)) H2 := rfl
theorem rd_ipI {f : Int → Int → Int} : ipI f x y H Q = ∃ i j, x = .int i ∧ y = .int j ∧ Q (.int (f i j)) H := rfl
theorem rd_nil : tNil σ H QA = QA [] H := rfl
theorem rd_cons : tCons ta tr σ H QA = ta σ H fun x H1 => tr σ H1 fun xs H2 => QA (x :: xs) H2 := rfl
theorem rd_tup : tTup tr σ H Q = tr σ H fun xs H1 => xs.length ≤ sizeLine ∧ ∀ p, H1 p = none → Q (.ref p) (upd H1 p (.tup xs)) := rfl
theorem rd_lst : tLst tr σ H Q = tr σ H fun xs H1 => xs.length ≤ sizeLine ∧ ∀ p, H1 p = none → Q (.ref p) (upd H1 p (.lst xs)) := rfl
theorem rd_CB {r : List V → Hp → VK → Prop} : tCB r tr σ H Q = tr σ H fun vs H1 => r vs H1 Q := rfl
theorem rd_call {sp : Sp} {dvs : List V} {E : XK} : tCall sp dvs E tr σ H Q = tr σ H fun vs H1 => sp (vs ++ dvs) H1 Q E := rfl
theorem rd_callS {sp : Sp} {E : L2.St → XK} : tCallS sp E tr σ H Q = tr σ H fun vs H1 => sp vs H1 Q (E σ) := rfl
theorem rd_ixL : rIxL K x y H Q = ∃ p xs i v, x = .ref p ∧ y = .int i ∧ SqL K H p xs ∧ atI xs i = some v ∧ Q v H := rfl
theorem rd_ixT : rIxT K x y H Q = ∃ p xs i v, x = .ref p ∧ y = .int i ∧ SqT K H p xs ∧ atI xs i = some v ∧ Q v H := rfl
theorem rd_isqrt {vs : List V} : rIsqrt vs H Q = ∃ a : Int, vs = [.int a] ∧ 0 ≤ a ∧ a < 2 ^ 13000 ∧ Q (.int ((Float64.isqrt a.toNat : Nat) : Int)) H := rfl
theorem rd_sum {vs : List V} : rSum K vs H Q = ∃ (a : Addr) (ns : List Int), vs = [V.ref a] ∧ SqL K H a (ns.map V.int) ∧ Q (.int ns.sum) H := rfl
end

/-! ### a def of the text: it stands, its name, its parameters -/
structure Dn (K : PySem.W.Frag) (mg : Str → Option Value) (x : Str) (st : Stmt) (ps : List Str) : Prop where
  ok : ∃ f fd, Fun K x x st f fd ∧ mg x = some (.ref f) ∧ Binds K fd ps []
section
variable {P : Program} {w : World} {K : PySem.W.Frag} {mg : Str → Option Value} {base : Heap}
theorem Dn.cal {x : Str} {st : Stmt} {N ps : List Str} {k : Nat} {sp : Sp} (D : Dn K mg x st ps) (S : FnScope N ps (defScope st)) (len : ∀ vs H Q E, sp vs H Q E → vs.length = ps.length)
    (hbody : ∀ (f : Addr) (cdv : Value) (A : Around) (outer : List Env) (s : Shared) (H : Hp) (vs : List V) (Q : VK) (E : XK), Room k (A.deeper (envOfC x (defScope st) s.heap.objs.size f cdv)) → sp vs H Q E →
      ∃ t, PSs (cxOf CX0 P w K mg base N x (defScope st) f cdv A outer s H E).nox (defBody st) t ∧ t { nx := fun _ H' => Q .non H', rt := Q } (start N vs) H) : Cal P w K mg base x (k + 1) ps sp := by
  obtain ⟨f, fd, F, hm, hb⟩ := D.ok
  exact ⟨f, fd, F.ok S len fun cdv A outer s H vs Q E hr h => hbody f cdv A outer s H vs Q E hr h, hm, F.kp, hb⟩
end
/-- a weaker wish -/
theorem same_upd {H : Hp} {p : Addr} {o : HO} (h : H p = none) : Same H (upd H p o) := fun b x e => by
  rw [upd_ne (ne_of_none e h)]
  exact e
theorem ex_int {p : Int → Prop} {i : Int} : (∃ j, V.int i = V.int j ∧ p j) = p i := by simp
theorem ex_bl {p : Bool → Prop} {i : Bool} : (∃ j, V.bl i = V.bl j ∧ p j) = p i := by simp
theorem ex_ref {p : Addr → Prop} {i : Addr} : (∃ j, V.ref i = V.ref j ∧ p j) = p i := by simp
theorem ex_str {p : Str → Prop} {i : Str} : (∃ j, V.str i = V.str j ∧ p j) = p i := by simp
theorem ex_some {p : V → Prop} {x : V} : (∃ v, some (some x) = some (some v) ∧ p v) = p x := by simp
theorem ex_2i {p : Int → Int → Prop} {i j : Int} : (∃ a b, V.int i = V.int a ∧ V.int j = V.int b ∧ p a b) = p i j := by simp
theorem ex_l1 {p : Int → Prop} {i : Int} : (∃ j, [V.int i] = [V.int j] ∧ p j) = p i := by simp
theorem ex_l2 {p : Int → Int → Prop} {i j : Int} : (∃ a b, [V.int i, V.int j] = [V.int a, V.int b] ∧ p a b) = p i j := propext ⟨fun ⟨_, _, e, h⟩ => by cases e; exact h, fun h => ⟨_, _, rfl, h⟩⟩
theorem ex_v2 {p : V → V → Prop} {i j : V} : (∃ a b, [i, j] = [a, b] ∧ p a b) = p i j := propext ⟨fun ⟨_, _, e, h⟩ => by cases e; exact h, fun h => ⟨_, _, rfl, h⟩⟩
theorem int1_eq {p : Int → Prop} {q : Bool → Prop} {i : Int} : ((∃ j, [V.int i] = [V.int j] ∧ p j) ∨ ∃ k, [V.int i] = [V.bl k] ∧ q k) = p i := by simp
theorem scal_int {i j : Int} : (scal (V.int i) (V.int j) = true) = True := by simp [scal]
theorem scal_str {i j : Str} : (scal (V.str i) (V.str j) = true) = True := by simp [scal]
theorem dec_ii {i j : Int} : decide (V.int i = V.int j) = decide (i = j) := by simp
theorem ite_dec {p : Prop} [Decidable p] {A B : Prop} : (if decide p = true then A else B) = (if p then A else B) := by simp
theorem ite_ndec {p : Prop} [Decidable p] {A B : Prop} : (if (!decide p) = true then A else B) = (if p then B else A) := by
  by_cases h : p <;> simp [h]
section
variable {H : Hp} {Q : VK} {x y v : V}
theorem rd_setL {R : Hp → Prop} : rSetL x y v H R = ∃ p xs k j, x = .ref p ∧ y = .int k ∧ H p = some (.lst xs) ∧ ixN xs.length k = some j ∧ R (upd H p (.lst (xs.set j v))) := rfl
theorem rd_append {K : PySem.W.Frag} {to : TE} {t : TA} {σ : L2.St} : tBM K "list" rAppend to t σ H Q = to σ H fun x H1 => tyV K "list" x H1 ∧ t σ H1 fun xs H2 => ∃ l ys y, x = .ref l ∧ xs = [y] ∧ H2 l = some (.lst ys) ∧ ys.length < sizeLine ∧ Q .non (upd H2 l (.lst (ys ++ [y]))) := rfl
theorem K_nox {X : Cx} : X.nox.K = X.K := rfl
theorem K_cxOf {CX : CXT} {P : Program} {w : World} {K : PySem.W.Frag} {mg : Str → Option Value} {base : Heap} {N : List Str} {qual : Str} {scope : Scope} {f : Addr} {cd : Value} {A : Around} {outer : List Env} {s : Shared} {H : Hp} {E : XK} :
  (cxOf CX P w K mg base N qual scope f cd A outer s H E).K = K := rfl
end
/-- int * int with a small side -/
theorem mulL {i j : Int} (h : -(2 ^ 64) < i ∧ i < 2 ^ 64) : IntMulOk i j := CMul.ok (.inl h)
theorem mulR {i j : Int} (h : -(2 ^ 64) < j ∧ j < 2 ^ 64) : IntMulOk i j := CMul.ok (.inr h)
theorem tyL {K : PySem.W.Frag} {l : Addr} {xs : List V} {H : Hp} (h : H l = some (.lst xs)) : tyV K "list" (.ref l) H := .inl ⟨rfl, _, SqL.of h⟩
/-! ### loops, by a word: the reading stops at ForL .. -/
def ForJ (J : It) (g : TG) (tb : TS) (D : Ends) (σ : L2.St) (H1 : Hp) : Prop := ∃ W : Nat → Nat → L2.St → Hp → Prop, (∃ m, W 0 m σ H1) ∧ ∀ i m σ H, W i m σ H →
  (J.stop i H ∧ D.nx σ H) ∨ (J.go i H ∧ ∃ N : L2.St → Hp → Prop, (∀ σ' H', N σ' H' → ∃ m', m' < m ∧ W (i + 1) m' σ' H') ∧ ∀ x H', J.yld i H x H' → g x σ H' fun σ2 H2 => tb { D with nx := N, ct := N, bk := D.nx } σ2 H2)
def ForL (K : PySem.W.Frag) (a : Addr) := ForJ (Itl K a)
def ForT (K : PySem.W.Frag) (a : Addr) := ForJ (Itt K a)
def ForR (lo : Int) (n : Nat) := ForJ (Itr lo n)
def ForC (lo c : Int) (n : Nat) := ForJ (Itc lo c n)
section
variable {K : PySem.W.Frag} {a : Addr} {xs : List V} {g : TG} {tb : TS} {D : Ends} {σ : L2.St} {H : Hp} {te : TE} {ta : TA}
theorem rd_forL : tFor (iList K te) g tb D σ H = te σ H fun x H1 => ∃ a, x = .ref a ∧ (∃ xs, SqL K H1 a xs) ∧ ForL K a g tb D σ H1 := rfl
theorem rd_forT : tFor (iTup K te) g tb D σ H = te σ H fun x H1 => ∃ a, x = .ref a ∧ (∃ xs, SqT K H1 a xs) ∧ ForT K a g tb D σ H1 := rfl
theorem rd_forR1 : tFor (iRng1 ta) g tb D σ H = ta σ H fun vs H1 => ∃ j : Int, vs = [.int j] ∧ -(2 ^ 62) ≤ j ∧ j < 2 ^ 62 ∧ ForR 0 j.toNat g tb D σ H1 := rfl
theorem rd_forR2 : tFor (iRng2 ta) g tb D σ H = ta σ H fun vs H1 => ∃ i j : Int, vs = [.int i, .int j] ∧ (-(2 ^ 62) ≤ i ∧ i < 2 ^ 62 ∧ -(2 ^ 62) ≤ j ∧ j < 2 ^ 62) ∧ ForR i (j - i).toNat g tb D σ H1 := rfl
theorem rd_forR3 : tFor (iRng3 ta) g tb D σ H = ta σ H fun vs H1 => ∃ (i j c : Int) (n : Nat), vs = [.int i, .int j, .int c] ∧ RgC i j c n ∧ ForC i c n g tb D σ H1 := rfl
theorem ForL.mk (Pv : Nat → L2.St → Hp → Prop) (h0 : Pv 0 σ H) (hl : ∀ i σ H, i ≤ xs.length → Pv i σ H → SqL K H a xs)
    (hs : ∀ i x σ H, xs[i]? = some x → Pv i σ H → g x σ H fun σ2 H2 => tb { D with nx := Pv (i + 1), ct := Pv (i + 1), bk := D.nx } σ2 H2) (hd : ∀ σ H, Pv xs.length σ H → D.nx σ H) : ForL K a g tb D σ H := for_list Pv h0 hl hs hd
theorem ForT.mk (Pv : Nat → L2.St → Hp → Prop) (h0 : Pv 0 σ H) (hl : ∀ i σ H, i ≤ xs.length → Pv i σ H → SqT K H a xs)
    (hs : ∀ i x σ H, xs[i]? = some x → Pv i σ H → g x σ H fun σ2 H2 => tb { D with nx := Pv (i + 1), ct := Pv (i + 1), bk := D.nx } σ2 H2) (hd : ∀ σ H, Pv xs.length σ H → D.nx σ H) : ForT K a g tb D σ H := for_tup Pv h0 hl hs hd
theorem ForR.mk {lo : Int} {n : Nat} (Pv : Nat → L2.St → Hp → Prop) (h0 : Pv 0 σ H)
    (hs : ∀ i σ H, i < n → Pv i σ H → g (.int (lo + i)) σ H fun σ2 H2 => tb { D with nx := Pv (i + 1), ct := Pv (i + 1), bk := D.nx } σ2 H2) (hd : ∀ σ H, Pv n σ H → D.nx σ H) : ForR lo n g tb D σ H := for_range Pv h0 hs hd
theorem ForC.mk {lo c : Int} {n : Nat} (Pv : Nat → L2.St → Hp → Prop) (h0 : Pv 0 σ H)
    (hs : ∀ i σ H, i < n → Pv i σ H → g (.int (lo + (i : Nat) * c)) σ H fun σ2 H2 => tb { D with nx := Pv (i + 1), ct := Pv (i + 1), bk := D.nx } σ2 H2) (hd : ∀ σ H, Pv n σ H → D.nx σ H) : ForC lo c n g tb D σ H := for_rangeC Pv h0 hs hd
/-- while, the test's answer told (it lays nothing) -/
theorem while_mk {c : TT} (Pv : L2.St → Hp → Prop) (μ : L2.St → Hp → Nat) (h0 : Pv σ H)
    (hs : ∀ σ H, Pv σ H → ∃ b : Bool, (∀ Q : Bool → Hp → Prop, Q b H → c σ H Q) ∧ (b = true → tb { D with nx := fun σ' H' => Pv σ' H' ∧ μ σ' H' < μ σ H, ct := fun σ' H' => Pv σ' H' ∧ μ σ' H' < μ σ H, bk := D.nx } σ H) ∧ (b = false → D.nx σ H)) : tWhile c tb D σ H := by
  refine ⟨fun m σ H => m = μ σ H ∧ Pv σ H, ⟨_, rfl, h0⟩, ?_⟩
  rintro m σ H ⟨rfl, p⟩
  obtain ⟨b, hc, h1, h2⟩ := hs σ H p
  refine hc _ ?_
  cases b with
  | true => rw [if_pos rfl]; exact ⟨_, fun σ' H' ⟨p', l⟩ => ⟨_, l, rfl, p'⟩, h1 rfl⟩
  | false => rw [if_neg Bool.false_ne_true]; exact h2 rfl
end
/-! ### comprehensions -/
def LcJ (J : It) (g : TG) (tt : TT) (te : TE) (vs : List Nat) (σ : L2.St) (H1 : Hp) (Q : VK) : Prop := ∀ D, H1 D = none → ∃ W : Nat → Nat → Hp → Prop, (∃ m, W 0 m (upd H1 D (.lst []))) ∧ ∀ i m H, W i m H →
  (J.stop i H ∧ Q (.ref D) H) ∨ (J.go i H ∧ ∃ Nx : Hp → Prop, (∀ H', Nx H' → ∃ m', m' < m ∧ W (i + 1) m' H') ∧ ∀ x H', J.yld i H x H' → g x (wipe σ vs) H' fun σ2 H2 => wipe σ2 vs = wipe σ vs ∧ tt σ2 H2 fun b H3 =>
    if b = true then te σ2 H3 fun y H4 => ∃ acc, H4 D = some (.lst acc) ∧ acc.length < sizeLine ∧ Nx (upd H4 D (.lst (acc ++ [y]))) else Nx H3)
def LcL (K : PySem.W.Frag) (a : Addr) := LcJ (Itl K a)
def LcT (K : PySem.W.Frag) (a : Addr) := LcJ (Itt K a)
def LcR (lo : Int) (n : Nat) := LcJ (Itr lo n)
section
variable {K : PySem.W.Frag} {a : Addr} {xs : List V} {g : TG} {tt : TT} {te tl : TE} {ta : TA} {vs : List Nat} {σ : L2.St} {H : Hp} {Q : VK}
theorem rd_lcL : tLc (iList K tl) g tt te vs σ H Q = tl σ H fun x H1 => ∃ a, x = .ref a ∧ (∃ xs, SqL K H1 a xs) ∧ LcL K a g tt te vs σ H1 Q := rfl
theorem rd_lcT : tLc (iTup K tl) g tt te vs σ H Q = tl σ H fun x H1 => ∃ a, x = .ref a ∧ (∃ xs, SqT K H1 a xs) ∧ LcT K a g tt te vs σ H1 Q := rfl
theorem rd_lcR1 : tLc (iRng1 ta) g tt te vs σ H Q = ta σ H fun us H1 => ∃ j : Int, us = [.int j] ∧ -(2 ^ 62) ≤ j ∧ j < 2 ^ 62 ∧ LcR 0 j.toNat g tt te vs σ H1 Q := rfl
theorem rd_lcR2 : tLc (iRng2 ta) g tt te vs σ H Q = ta σ H fun us H1 => ∃ i j : Int, us = [.int i, .int j] ∧ (-(2 ^ 62) ≤ i ∧ i < 2 ^ 62 ∧ -(2 ^ 62) ≤ j ∧ j < 2 ^ 62) ∧ LcR i (j - i).toNat g tt te vs σ H1 Q := rfl
/-- the word of a comprehension at D: what is made so far, the heap -/
theorem LcL.mk (Pv : Nat → Addr → Hp → Prop) (h0 : ∀ D, H D = none → Pv 0 D (upd H D (.lst []))) (hl : ∀ D i H, i ≤ xs.length → Pv i D H → SqL K H a xs)
    (hs : ∀ D i x H, xs[i]? = some x → Pv i D H → g x (wipe σ vs) H fun σ2 H2 => wipe σ2 vs = wipe σ vs ∧ tt σ2 H2 fun b H3 =>
      if b = true then te σ2 H3 fun y H4 => ∃ acc, H4 D = some (.lst acc) ∧ acc.length < sizeLine ∧ Pv (i + 1) D (upd H4 D (.lst (acc ++ [y]))) else Pv (i + 1) D H3) (hd : ∀ D H', H D = none → Pv xs.length D H' → Q (.ref D) H') : LcL K a g tt te vs σ H Q :=
  fun D hD => lc_list (Qd := fun H' => Q (.ref D) H') (fun i H => Pv i D H) (h0 D hD) (hl D) (hs D) (fun H' p => hd D H' hD p)
theorem LcT.mk (Pv : Nat → Addr → Hp → Prop) (h0 : ∀ D, H D = none → Pv 0 D (upd H D (.lst []))) (hl : ∀ D i H, i ≤ xs.length → Pv i D H → SqT K H a xs)
    (hs : ∀ D i x H, xs[i]? = some x → Pv i D H → g x (wipe σ vs) H fun σ2 H2 => wipe σ2 vs = wipe σ vs ∧ tt σ2 H2 fun b H3 =>
      if b = true then te σ2 H3 fun y H4 => ∃ acc, H4 D = some (.lst acc) ∧ acc.length < sizeLine ∧ Pv (i + 1) D (upd H4 D (.lst (acc ++ [y]))) else Pv (i + 1) D H3) (hd : ∀ D H', H D = none → Pv xs.length D H' → Q (.ref D) H') : LcT K a g tt te vs σ H Q :=
  fun D hD => lc_tup (Qd := fun H' => Q (.ref D) H') (fun i H => Pv i D H) (h0 D hD) (hl D) (hs D) (fun H' p => hd D H' hD p)
theorem LcR.mk {lo : Int} {n : Nat} (Pv : Nat → Addr → Hp → Prop) (h0 : ∀ D, H D = none → Pv 0 D (upd H D (.lst [])))
    (hs : ∀ D i H, i < n → Pv i D H → g (.int (lo + i)) (wipe σ vs) H fun σ2 H2 => wipe σ2 vs = wipe σ vs ∧ tt σ2 H2 fun b H3 =>
      if b = true then te σ2 H3 fun y H4 => ∃ acc, H4 D = some (.lst acc) ∧ acc.length < sizeLine ∧ Pv (i + 1) D (upd H4 D (.lst (acc ++ [y]))) else Pv (i + 1) D H3) (hd : ∀ D H', H D = none → Pv n D H' → Q (.ref D) H') : LcR lo n g tt te vs σ H Q :=
  fun D hD => lc_range (Qd := fun H' => Q (.ref D) H') (fun i H => Pv i D H) (h0 D hD) (hs D) (fun H' p => hd D H' hD p)
theorem rd_yes {QT : Bool → Hp → Prop} : tYes σ H QT = QT true H := rfl
theorem rd_sl {r : V → Option Int → Option Int → Hp → VK → Prop} {tlo thi : L2.St → Hp → (Option Int → Hp → Prop) → Prop} : tSl r te tlo thi σ H Q = te σ H fun x H1 => tlo σ H1 fun l H2 => thi σ H2 fun u H3 => r x l u H3 Q := rfl
theorem rd_noPart {QO : Option Int → Hp → Prop} : tNoPart σ H QO = QO none H := rfl
theorem rd_part {QO : Option Int → Hp → Prop} : tPart te σ H QO = te σ H fun x H1 => ∃ i, x = .int i ∧ QO (some i) H1 := rfl
theorem rd_slL {x : V} {lo hi : Option Int} : rSlL K x lo hi H Q = ∃ a xs, x = .ref a ∧ SqL K H a xs ∧ ∀ p, H p = none → Q (.ref p) (upd H p (.lst (cutV xs lo hi))) := rfl
end
/-! ### isinstance of a built-in class -/
theorem isi_mk {K : PySem.W.Frag} {x : V} {T t : String} {b : Bool} {H : Hp} {Q : VK} (ty : TyX K H x (.type t)) (e : kitB t T = some b) (q : Q (.bl b) H) : rIsi K [x, .ty T] H Q := ⟨x, .ty T, _, _, b, rfl, .ty T, ty, kit_ty e, q⟩
/-! ### the same with the next turn's word a letter (simp doesn't read it) -/
section
variable {K : PySem.W.Frag} {a : Addr} {xs : List V} {g : TG} {tb : TS} {D : Ends} {σ : L2.St} {H : Hp} {te : TE} {ta : TA} {tt : TT} {vs : List Nat} {Q : VK}
theorem while_w {c : TT} (Pw : L2.St → Hp → Prop) (μ : L2.St → Hp → Nat) (h0 : Pw σ H)
    (hs : ∀ σ H, Pw σ H → ∀ N : L2.St → Hp → Prop, (∀ σ' H', Pw σ' H' → μ σ' H' < μ σ H → N σ' H') →
      ∃ b : Bool, (∀ Q : Bool → Hp → Prop, Q b H → c σ H Q) ∧ (b = true → tb { D with nx := N, ct := N, bk := D.nx } σ H) ∧ (b = false → D.nx σ H)) : tWhile c tb D σ H :=
  while_mk Pw μ h0 fun σ H p => hs σ H p _ fun _ _ h1 h2 => ⟨h1, h2⟩
theorem ForL.w (Pw : Nat → L2.St → Hp → Prop) (h0 : Pw 0 σ H) (hl : ∀ i σ H, i ≤ xs.length → Pw i σ H → SqL K H a xs)
    (hs : ∀ i x σ H, xs[i]? = some x → Pw i σ H → ∀ N : L2.St → Hp → Prop, (∀ σ' H', Pw (i + 1) σ' H' → N σ' H') → g x σ H fun σ2 H2 => tb { D with nx := N, ct := N, bk := D.nx } σ2 H2) (hd : ∀ σ H, Pw xs.length σ H → D.nx σ H) : ForL K a g tb D σ H :=
  ForL.mk Pw h0 hl (fun i x σ H e p => hs i x σ H e p _ fun _ _ h => h) hd
theorem ForT.w (Pw : Nat → L2.St → Hp → Prop) (h0 : Pw 0 σ H) (hl : ∀ i σ H, i ≤ xs.length → Pw i σ H → SqT K H a xs)
    (hs : ∀ i x σ H, xs[i]? = some x → Pw i σ H → ∀ N : L2.St → Hp → Prop, (∀ σ' H', Pw (i + 1) σ' H' → N σ' H') → g x σ H fun σ2 H2 => tb { D with nx := N, ct := N, bk := D.nx } σ2 H2) (hd : ∀ σ H, Pw xs.length σ H → D.nx σ H) : ForT K a g tb D σ H :=
  ForT.mk Pw h0 hl (fun i x σ H e p => hs i x σ H e p _ fun _ _ h => h) hd
theorem ForR.w {lo : Int} {n : Nat} (Pw : Nat → L2.St → Hp → Prop) (h0 : Pw 0 σ H)
    (hs : ∀ i σ H, i < n → Pw i σ H → ∀ N : L2.St → Hp → Prop, (∀ σ' H', Pw (i + 1) σ' H' → N σ' H') → g (.int (lo + i)) σ H fun σ2 H2 => tb { D with nx := N, ct := N, bk := D.nx } σ2 H2) (hd : ∀ σ H, Pw n σ H → D.nx σ H) : ForR lo n g tb D σ H :=
  ForR.mk Pw h0 (fun i σ H e p => hs i σ H e p _ fun _ _ h => h) hd
theorem ForC.w {lo c : Int} {n : Nat} (Pw : Nat → L2.St → Hp → Prop) (h0 : Pw 0 σ H)
    (hs : ∀ i σ H, i < n → Pw i σ H → ∀ N : L2.St → Hp → Prop, (∀ σ' H', Pw (i + 1) σ' H' → N σ' H') → g (.int (lo + (i : Nat) * c)) σ H fun σ2 H2 => tb { D with nx := N, ct := N, bk := D.nx } σ2 H2) (hd : ∀ σ H, Pw n σ H → D.nx σ H) : ForC lo c n g tb D σ H :=
  ForC.mk Pw h0 (fun i σ H e p => hs i σ H e p _ fun _ _ h => h) hd
/-- a comprehension: Pw turn D made heap: the list at D holds made -/
theorem LcL.w (Pw : Nat → Addr → List V → Hp → Prop) (h0 : ∀ D, H D = none → Pw 0 D [] (upd H D (.lst []))) (hl : ∀ D i ys H, i ≤ xs.length → Pw i D ys H → SqL K H a xs)
    (hs : ∀ D i x ys H, xs[i]? = some x → Pw i D ys H → ∀ N : Hp → Prop, (∀ ys' H', Pw (i + 1) D ys' H' → N H') → g x (wipe σ vs) H fun σ2 H2 => wipe σ2 vs = wipe σ vs ∧ tt σ2 H2 fun b H3 =>
      if b = true then te σ2 H3 fun y H4 => ∃ acc, H4 D = some (.lst acc) ∧ acc.length < sizeLine ∧ N (upd H4 D (.lst (acc ++ [y]))) else N H3) (hd : ∀ D ys H', H D = none → Pw xs.length D ys H' → Q (.ref D) H') : LcL K a g tt te vs σ H Q :=
  LcL.mk (xs := xs) (fun i D H => ∃ ys, Pw i D ys H) (fun D n => ⟨[], h0 D n⟩) (fun D i H hi ⟨ys, p⟩ => hl D i ys H hi p) (fun D i x H e ⟨ys, p⟩ => hs D i x ys H e p _ fun ys' H' h => ⟨ys', h⟩) (fun D H' n ⟨ys, p⟩ => hd D ys H' n p)
theorem LcT.w (Pw : Nat → Addr → List V → Hp → Prop) (h0 : ∀ D, H D = none → Pw 0 D [] (upd H D (.lst []))) (hl : ∀ D i ys H, i ≤ xs.length → Pw i D ys H → SqT K H a xs)
    (hs : ∀ D i x ys H, xs[i]? = some x → Pw i D ys H → ∀ N : Hp → Prop, (∀ ys' H', Pw (i + 1) D ys' H' → N H') → g x (wipe σ vs) H fun σ2 H2 => wipe σ2 vs = wipe σ vs ∧ tt σ2 H2 fun b H3 =>
      if b = true then te σ2 H3 fun y H4 => ∃ acc, H4 D = some (.lst acc) ∧ acc.length < sizeLine ∧ N (upd H4 D (.lst (acc ++ [y]))) else N H3) (hd : ∀ D ys H', H D = none → Pw xs.length D ys H' → Q (.ref D) H') : LcT K a g tt te vs σ H Q :=
  LcT.mk (xs := xs) (fun i D H => ∃ ys, Pw i D ys H) (fun D n => ⟨[], h0 D n⟩) (fun D i H hi ⟨ys, p⟩ => hl D i ys H hi p) (fun D i x H e ⟨ys, p⟩ => hs D i x ys H e p _ fun ys' H' h => ⟨ys', h⟩) (fun D H' n ⟨ys, p⟩ => hd D ys H' n p)
theorem LcR.w {lo : Int} {n : Nat} (Pw : Nat → Addr → List V → Hp → Prop) (h0 : ∀ D, H D = none → Pw 0 D [] (upd H D (.lst [])))
    (hs : ∀ D i ys H, i < n → Pw i D ys H → ∀ N : Hp → Prop, (∀ ys' H', Pw (i + 1) D ys' H' → N H') → g (.int (lo + i)) (wipe σ vs) H fun σ2 H2 => wipe σ2 vs = wipe σ vs ∧ tt σ2 H2 fun b H3 =>
      if b = true then te σ2 H3 fun y H4 => ∃ acc, H4 D = some (.lst acc) ∧ acc.length < sizeLine ∧ N (upd H4 D (.lst (acc ++ [y]))) else N H3) (hd : ∀ D ys H', H D = none → Pw n D ys H' → Q (.ref D) H') : LcR lo n g tt te vs σ H Q :=
  LcR.mk (fun i D H => ∃ ys, Pw i D ys H) (fun D n => ⟨[], h0 D n⟩) (fun D i H e ⟨ys, p⟩ => hs D i ys H e p _ fun ys' H' h => ⟨ys', h⟩) (fun D H' n ⟨ys, p⟩ => hd D ys H' n p)
end
theorem rd_max2 {xs : List V} {H : Hp} {Q : VK} : (fun (xs : List V) (H : Hp) (Q : VK) => ∃ i j : Int, xs = [.int i, .int j] ∧ Q (.int (if j > i then j else i)) H) xs H Q = ∃ i j : Int, xs = [.int i, .int j] ∧ Q (.int (if j > i then j else i)) H := rfl
theorem rd_wipe0 {σ : L2.St} : wipe σ [] = σ := rfl
theorem rd_wipe1 {σ : L2.St} {v : Nat} {vs : List Nat} : wipe σ (v :: vs) = (wipe σ vs).set v none := rfl
theorem rd_eqD {K : PySem.W.Frag} {x y : V} {H : Hp} {Q : VK} : rEqD K x y H Q = ∃ d e, Dp K H x d ∧ Dp K H y e ∧ SeqAt.shaped d = true ∧ SeqAt.shaped e = true ∧ Q (.bl (PyData.eqv d e)) H := rfl
theorem rd_neD {K : PySem.W.Frag} {x y : V} {H : Hp} {Q : VK} : rNeD K x y H Q = ∃ d e, Dp K H x d ∧ Dp K H y e ∧ SeqAt.shaped d = true ∧ SeqAt.shaped e = true ∧ Q (.bl (!PyData.eqv d e)) H := rfl
theorem rd_rep {x y : V} {H : Hp} {Q : VK} : rRep x y H Q = ∃ l k xs, x = .ref l ∧ y = .int k ∧ H l = some (.lst xs) ∧ -(2 ^ 63) ≤ k ∧ k < 2 ^ 63 ∧ xs.length * k.toNat ≤ sizeLine ∧ ∀ p, H p = none → Q (.ref p) (upd H p (.lst (List.replicate k.toNat xs).flatten)) := rfl
theorem dp_ints {K : PySem.W.Frag} {H : Hp} : ∀ l : List Int, DpAll K H (l.map V.int) (l.map PyData.int)
  | [] => .nil
  | i :: l => .cons (.int i) (dp_ints l)
theorem dp_strs {K : PySem.W.Frag} {H : Hp} : ∀ l : List Str, DpAll K H (l.map V.str) (l.map PyData.str)
  | [] => .nil
  | i :: l => .cons (.str i) (dp_strs l)
/-! ### powers of any size; tuples made of lists; data -/
def CPowI (i j : Int) : Prop := 0 ≤ j ∧ (Builtin.Int.intBits i : Int) * j ≤ 2 ^ 27
theorem op_powI {X : Cx} : OpR X (binaryOp .Pow) (rI CPowI fun i j => .int (i ^ j.toNat)) := opI fun _ _ _ _ _ _ _ hc q => pow_int hc.1 hc.2 q
theorem bits_le {i : Int} {n : Nat} (h : i.natAbs < 2 ^ n) (h0 : 0 < n) : Builtin.Int.intBits i ≤ n := by
  have a := PySem.Flt.log2_lt_of h0 h
  unfold Builtin.Int.intBits
  split <;> omega
theorem powI {i j : Int} {n : Nat} (h : i.natAbs < 2 ^ n) (h0 : 0 < n) (hj : 0 ≤ j) (hz : (n : Int) * j ≤ 2 ^ 27) : CPowI i j := by
  refine ⟨hj, Int.le_trans (Int.mul_le_mul_of_nonneg_right ?_ hj) hz⟩
  exact Int.ofNat_le.mpr (bits_le h h0)
def rTupOf (K : PySem.W.Frag) : List V → Hp → VK → Prop := fun xs H Q => ∃ p ys, xs = [.ref p] ∧ ((SqL K H p ys ∧ ∀ l, H l = none → Q (.ref l) (upd H l (.tup ys))) ∨ (SqT K H p ys ∧ Q (.ref p) H))
theorem cr_tupOf {X : Cx} : CallR X (.type "tuple") (rTupOf X.K) := call_tuple_of
theorem rd_tupOf {K : PySem.W.Frag} {xs : List V} {H : Hp} {Q : VK} : rTupOf K xs H Q = ∃ p ys, xs = [.ref p] ∧ ((SqL K H p ys ∧ ∀ l, H l = none → Q (.ref l) (upd H l (.tup ys))) ∨ (SqT K H p ys ∧ Q (.ref p) H)) := rfl
def rLenS (K : PySem.W.Frag) : List V → Hp → VK → Prop := fun xs H Q => ∃ x n, xs = [x] ∧ LenV K x H n ∧ Q (.int n) H
theorem cr_lenS {X : Cx} : CallR X (.builtin "len") (rLenS X.K) := call_len
theorem rd_lenS {K : PySem.W.Frag} {xs : List V} {H : Hp} {Q : VK} : rLenS K xs H Q = ∃ x n, xs = [x] ∧ LenV K x H n ∧ Q (.int n) H := rfl
theorem rd_gcd {vs : List V} {H : Hp} {Q : VK} : rGcd vs H Q = ∃ a b : Int, vs = [.int a, .int b] ∧ Q (.int ((Nat.gcd a.natAbs b.natAbs : Nat) : Int)) H := rfl
/-- what holds between two statements -/
theorem seq_cut {t u : TS} {D : Ends} {σ : L2.St} {H : Hp} (Pw : L2.St → Hp → Prop) (h1 : ∀ R : L2.St → Hp → Prop, (∀ σ H, Pw σ H → R σ H) → t { D with nx := R } σ H) (h2 : ∀ σ H, Pw σ H → u D σ H) : tSeq t u D σ H := h1 (u D) h2
theorem rd_any {K : PySem.W.Frag} {vs : List V} {H : Hp} {Q : VK} : rAny K vs H Q = ∃ (a : Addr) (bs : List Bool), vs = [V.ref a] ∧ SqL K H a (bs.map V.bl) ∧ Q (.bl (bs.any id)) H := rfl
theorem rd_all {K : PySem.W.Frag} {vs : List V} {H : Hp} {Q : VK} : rAll K vs H Q = ∃ (a : Addr) (bs : List Bool), vs = [V.ref a] ∧ SqL K H a (bs.map V.bl) ∧ Q (.bl (bs.all id)) H := rfl
theorem rd_ext {K : PySem.W.Frag} {to : TE} {t : TA} {σ : L2.St} {H : Hp} {Q : VK} : tBM K "list" rExtend to t σ H Q = to σ H fun x H1 => tyV K "list" x H1 ∧ t σ H1 fun xs H2 => ∃ l b ys zs, x = .ref l ∧ xs = [.ref b] ∧ H2 l = some (.lst ys) ∧ H2 b = some (.lst zs) ∧ ys.length + zs.length ≤ sizeLine ∧ Q .non (upd H2 l (.lst (ys ++ zs))) := rfl
theorem rd_glst {K : PySem.W.Frag} {n : Nat} {g : TGs} {v : V} {σ : L2.St} {H : Hp} {QS : L2.St → Hp → Prop} : gLst K n g v σ H QS = ∃ a xs, v = .ref a ∧ SqL K H a xs ∧ xs.length = n ∧ g xs σ H QS := rfl
theorem ix_listK {X : Cx} {K : PySem.W.Frag} (h : X.K = K) : IxR X (rIxL K) := by
  subst h
  exact ix_list
theorem ix_tupK {X : Cx} {K : PySem.W.Frag} (h : X.K = K) : IxR X (rIxT K) := by
  subst h
  exact ix_tup
end CB/-! sorted of a list of triples of ints, any number of them -/
namespace CB
open PySem PyProof.Rows Srt SrtO L2
abbrev T3 := Int × Int × Int
def lexT (p q : T3) : Bool := if p.1 = q.1 then lexB p.2 q.2 else decide (p.1 < q.1)
theorem lexT_iff {p q : T3} : lexT p q = true ↔ p.1 < q.1 ∨ (p.1 = q.1 ∧ (p.2.1 < q.2.1 ∨ (p.2.1 = q.2.1 ∧ p.2.2 < q.2.2))) := by
  unfold lexT
  by_cases e : p.1 = q.1
  · rw [if_pos e, lexB_iff]
    omega
  · rw [if_neg e, decide_eq_true_eq]
    omega
theorem lexT_no {p q : T3} : lexT p q = false ↔ ¬ (p.1 < q.1 ∨ (p.1 = q.1 ∧ (p.2.1 < q.2.1 ∨ (p.2.1 = q.2.1 ∧ p.2.2 < q.2.2)))) := by
  rw [← lexT_iff]
  cases lexT p q <;> simp
theorem swo_T {α : Type} (k : α → T3) : Swo fun v u => lexT (k v) (k u) := by
  refine ⟨fun x y h => ?_, fun x y z h1 h2 => ?_⟩
  · have a := lexT_iff.mp h
    refine lexT_no.mpr ?_
    omega
  · have a := lexT_no.mp h1
    have b := lexT_no.mp h2
    refine lexT_no.mpr ?_
    omega
theorem lexT_eq {p q : T3} (h1 : lexT p q = false) (h2 : lexT q p = false) : p = q := by
  have a := lexT_no.mp h1
  have b := lexT_no.mp h2
  obtain ⟨p1, p2, p3⟩ := p
  obtain ⟨q1, q2, q3⟩ := q
  simp only at a b
  have e1 : p1 = q1 := by omega
  have e2 : p2 = q2 := by omega
  have e3 : p3 = q3 := by omega
  rw [e1, e2, e3]
/-- two sorted rearrangements of triples are one -/
theorem srtT_uniq : ∀ {l m : List T3}, l.Pairwise (fun p q => lexT q p = false) → m.Pairwise (fun p q => lexT q p = false) → l.Perm m → l = m := fun {l m} h1 h2 h => by
  refine List.Perm.eq_of_pairwise (le := fun p q => lexT q p = false) (fun a b _ _ x y => lexT_eq y x) h1 h2 h
section
variable {prog : Program} {w : World} {A : Around} {E : Value → Shared → Prop} {s : Shared}
def IsTrip (h : Heap) (v : Value) (k : T3) : Prop := ∃ a o t u r n, v = .ref a ∧ h.get? a = some o ∧ o.cls = .type "tuple" ∧ o.data = .seq #[.int k.1 t, .int k.2.1 u, .int k.2.2 r] n
theorem IsTrip.keeps {h h' : Heap} {v : Value} {k : T3} (p : IsTrip h v k) (kk : ∀ b o, h.get? b = some o → o.cls = .type "tuple" → h'.get? b = some o) : IsTrip h' v k := by
  obtain ⟨a, o, t, u, r, n, e, ho, hc, hd⟩ := p
  exact ⟨a, o, t, u, r, n, e, kk _ _ ho hc, hc, hd⟩
theorem firstsT {h : Heap} : ∀ {vs : List Value}, (∀ v ∈ vs, ∃ k, IsTrip h v k) → ∃ fs : List Value, PySem.W.KatTups h vs fs ∧ fs.length = vs.length ∧ ∀ f ∈ fs, ∃ x t, f = Value.int x t
  | [], _ => ⟨[], PySem.W.KatTups.nil, rfl, fun _ hm => by simp at hm⟩
  | v :: vs, hp => by
    obtain ⟨fs, h1, h2, h3⟩ := firstsT (vs := vs) fun v' hm => hp v' (List.mem_cons_of_mem _ hm)
    obtain ⟨k, a, o, t, u, r, n, e, ho, hc, hd⟩ := hp v (List.mem_cons_self ..)
    subst e
    refine ⟨.int k.1 t :: fs, PySem.W.KatTups.cons ho hc hd rfl h1, by rw [List.length_cons, List.length_cons, h2], fun f hm => ?_⟩
    rcases List.mem_cons.mp hm with rfl | hm
    · exact ⟨k.1, t, rfl⟩
    · exact h3 f hm
theorem trip_cmp {vs : List Value} {k : Value → T3} (hp : ∀ v ∈ vs, IsTrip s.heap v (k v)) : SrtO.Cmp prog w A s (tuples' true) (fun p => p.1 ∈ vs) (lt2 fun v u => lexT (k v) (k u)) := by
  intro p q hm hm'
  have h1 := hp _ hm
  have h2 := hp _ hm'
  show wpAny (model prog w) A (keyLt' (tuples' true) p.1 q.1) (fun r s' => s' = s ∧ r = lexT (k p.1) (k q.1)) (fun _ _ => False) s
  generalize k p.1 = kp at h1 ⊢
  generalize k q.1 = kq at h2 ⊢
  obtain ⟨x, y, z⟩ := kp
  obtain ⟨x', y', z'⟩ := kq
  obtain ⟨a, o, t, u, r, n, e, ho, hc, hd⟩ := h1
  obtain ⟨a', o', t', u', r', n', e', ho', hc', hd'⟩ := h2
  rw [e, e']
  simp only at hd hd'
  refine PySem.W.kat_lt ho hd ho' hd' ?_
  show PySem.W.KatLex prog w A true (decide (3 < 3)) _ [(.int x t, .int x' t'), (.int y u, .int y' u'), (.int z r, .int z' r')] 0 s
  refine PySem.W.kat_cons (SeqAt.EqAt.int_int x t x' t' prog w _ _ ?_)
  refine PySem.W.kat_go (fun e1 => ?_) (fun e1 => ?_)
  · have ex : x = x' := by simpa using e1
    refine PySem.W.kat_yes (PySem.W.kat_cons (SeqAt.EqAt.int_int y u y' u' prog w _ _ ?_))
    refine PySem.W.kat_go (fun e2 => ?_) (fun e2 => ?_)
    · have ey : y = y' := by simpa using e2
      refine PySem.W.kat_yes (PySem.W.kat_cons (SeqAt.EqAt.int_int z r z' r' prog w _ _ ?_))
      refine PySem.W.kat_go (fun e3 => ?_) (fun e3 => ?_)
      · have ez : z = z' := by simpa using e3
        have e4 : lexT (x, y, z) (x', y', z') = false := lexT_no.mpr (by simp only; omega)
        exact PySem.W.kat_yes (PySem.W.kat_nil ⟨rfl, e4.symm⟩)
      · have e4 : lexT (x, y, z) (x', y', z') = decide (z < z') := by
          unfold lexT lexB
          simp only
          rw [if_pos ex, if_pos ey]
        refine PySem.W.kat_no (PySem.W.kat_one _ _ (PyProof.Rows.lt_int ?_))
        exact (show s = s ∧ decide (z < z') = lexT (x, y, z) (x', y', z') from ⟨rfl, e4.symm⟩)
    · have ey : ¬ y = y' := by simpa using e2
      have e4 : lexT (x, y, z) (x', y', z') = decide (y < y') := by
        unfold lexT lexB
        simp only
        rw [if_pos ex, if_neg ey]
      refine PySem.W.kat_no (PySem.W.kat_one _ _ (PyProof.Rows.lt_int ?_))
      exact (show s = s ∧ decide (y < y') = lexT (x, y, z) (x', y', z') from ⟨rfl, e4.symm⟩)
  · have ex : ¬ x = x' := by simpa using e1
    have e3 : lexT (x, y, z) (x', y', z') = decide (x < x') := by
      unfold lexT
      simp only
      rw [if_neg ex]
    exact PySem.W.kat_no (oneLt_int ⟨rfl, e3.symm⟩)
theorem trips_sortableO {a : Addr} {vs : List Value} {k : Value → T3} (h0 : 0 < vs.length) (hp : ∀ v ∈ vs, IsTrip s.heap v (k v)) (ha : ∀ o, s.heap.get? a = some o → o.cls ≠ .type "tuple") : SortableO prog w A s a vs fun v u => lexT (k v) (k u) := by
  intro h' keep
  have hp' : ∀ v ∈ vs, IsTrip h' v (k v) := fun v hm => (hp v hm).keeps fun b o e c => keep b o (fun z => by subst z; exact ha o e c) e
  obtain ⟨fs, h1, h2, h3⟩ := firstsT fun v hm => ⟨_, hp' v hm⟩
  refine ⟨tuples' true, fun Q E hq => ?_, trip_cmp hp'⟩
  refine PySem.W.kat_kind (T := .type "int") h1 (by omega) (fun f hm => ?_) (by rfl) ?_
  · obtain ⟨x, t, rfl⟩ := h3 f hm
    exact PySem.W.Looks.now
  · have e : (Value.type "int" != Value.type "tuple") = true := by first | decide +kernel | rfl | decide
    rw [e]
    exact hq
theorem sorted_tripsO {l : Addr} {vs : List Value} {k : Value → T3} {Q : Value → Shared → Prop} (hl : s.heap.IsList l vs.toArray) (hz : vs.length ≤ sizeLine) (hp : ∀ v ∈ vs, IsTrip s.heap v (k v))
    (h : ∀ (h' : Heap) (d : Addr) (out : List Value), Srtd (fun v u => lexT (k v) (k u)) out → Stb (fun v u => lexT (k v) (k u)) out vs → (∀ b o, s.heap.get? b = some o → h'.get? b = some o) → s.heap.objs.size ≤ d → (∃ n, h'.get? d = some (seqObj "list" out.toArray n)) → Q (.ref d) { s with heap := h' }) :
    wpAny (model prog w) A (call (.builtin "sorted") [.ref l]) Q E s := by
  refine sorted_ord (swo_T k) hl hz (fun h2 h₁ a ha kk => ?_) fun out hs hb => ?_
  · refine trips_sortableO (s := { s with heap := h₁ }) (by omega) (fun v hm => (hp v hm).keeps fun b o e _ => (kk b o e).2) fun o e => ?_
    have e' : some o = some (seqObj "list" vs.toArray 0) := e.symm.trans ha
    cases e'
    intro c
    exact absurd (Value.type.inj c) (by decide)
  · exact h _ _ out hs hb (fun b o e => sortedAll_old e) (Nat.le_succ _) (sortedAll_at s.heap vs out.toArray)
end
end CB
namespace CB
open PySem PySem.Spec PyProof.Rows L2
/-- the triple that stands at x -/
def kT (H : Hp) : V → T3
  | .ref r => match H r with
    | some (.tup [.int a, .int b, .int c]) => (a, b, c)
    | _ => (0, 0, 0)
  | _ => (0, 0, 0)
def IsT3 (H : Hp) (x : V) : Prop := ∃ r a b c, x = V.ref r ∧ H r = some (.tup [.int a, .int b, .int c])
theorem IsT3.at {H : Hp} {x : V} (h : IsT3 H x) : ∃ r, x = V.ref r ∧ H r = some (.tup [.int (kT H x).1, .int (kT H x).2.1, .int (kT H x).2.2]) := by
  obtain ⟨r, a, b, c, rfl, e⟩ := h
  refine ⟨r, rfl, ?_⟩
  have q : kT H (V.ref r) = (a, b, c) := by
    show (match H r with
      | some (.tup [.int a, .int b, .int c]) => (a, b, c)
      | _ => (0, 0, 0)) = _
    rw [e]
  rw [q, e]
/-- the list of triples that stand at the xs -/
def Trs (H : Hp) (xs : List V) (ts : List T3) : Prop := (∀ x ∈ xs, IsT3 H x) ∧ ts = xs.map (kT H)
theorem kT_same {H H' : Hp} (s : Same H H') {x : V} (h : IsT3 H x) : kT H' x = kT H x ∧ IsT3 H' x := by
  obtain ⟨r, a, b, c, rfl, e⟩ := h
  have e' := s _ _ e
  refine ⟨?_, r, a, b, c, rfl, e'⟩
  show (match H' r with
      | some (.tup [.int a, .int b, .int c]) => (a, b, c)
      | _ => (0, 0, 0)) = (match H r with
      | some (.tup [.int a, .int b, .int c]) => (a, b, c)
      | _ => (0, 0, 0))
  rw [e, e']
theorem Trs.same {H H' : Hp} {xs : List V} {ts : List T3} (s : Same H H') (h : Trs H xs ts) : Trs H' xs ts := by
  obtain ⟨h1, rfl⟩ := h
  exact ⟨fun x m => (kT_same s (h1 x m)).2, List.map_congr_left fun x m => (kT_same s (h1 x m)).1.symm⟩
theorem Trs.keep {H H' : Hp} {xs : List V} {ts : List T3} (s : ∀ r a b c, H r = some (.tup [.int a, .int b, .int c]) → H' r = some (.tup [.int a, .int b, .int c])) (h : Trs H xs ts) : Trs H' xs ts := by
  obtain ⟨h1, rfl⟩ := h
  refine ⟨fun x m => ?_, List.map_congr_left fun x m => ?_⟩
  · obtain ⟨r, a, b, c, e, q⟩ := h1 x m
    exact ⟨r, a, b, c, e, s _ _ _ _ q⟩
  · obtain ⟨r, a, b, c, rfl, q⟩ := h1 x m
    show (match H r with
      | some (.tup [.int a, .int b, .int c]) => (a, b, c)
      | _ => (0, 0, 0)) = (match H' r with
      | some (.tup [.int a, .int b, .int c]) => (a, b, c)
      | _ => (0, 0, 0))
    rw [q, s _ _ _ _ q]
theorem same_at {H H1 : Hp} {f : Addr} {o : HO} (s : Same H H1) (n : H f = none) : Same H (upd H1 f o) := fun b x e => by
  rw [upd_ne (ne_of_none e n)]
  exact s b x e
theorem Trs.updL {H : Hp} {f : Addr} {l : List V} {o : HO} {xs : List V} {ts : List T3} (h : Trs H xs ts) (e : H f = some (.lst l)) : Trs (upd H f o) xs ts :=
  h.keep fun r a b c q => by rw [upd_ne (ne_of q e (by intro z; cases z))]; exact q
theorem Trs.updN {H : Hp} {f : Addr} {o : HO} {xs : List V} {ts : List T3} (h : Trs H xs ts) (e : H f = none) : Trs (upd H f o) xs ts := h.same (same_upd e)
theorem Trs.nil {H : Hp} : Trs H [] [] := ⟨fun x m => by simp at m, rfl⟩
theorem Trs.snoc {H : Hp} {xs : List V} {ts : List T3} {r : Addr} {a b c : Int} (h : Trs H xs ts) (e : H r = some (.tup [.int a, .int b, .int c])) : Trs H (xs ++ [.ref r]) (ts ++ [(a, b, c)]) := by
  obtain ⟨h1, rfl⟩ := h
  refine ⟨fun x m => ?_, ?_⟩
  · rcases List.mem_append.mp m with m | m
    · exact h1 x m
    · rw [List.mem_singleton.mp m]
      exact ⟨r, a, b, c, rfl, e⟩
  · rw [List.map_append]
    show _ = _ ++ [kT H (.ref r)]
    have q : kT H (V.ref r) = (a, b, c) := by
      show (match H r with
        | some (.tup [.int a, .int b, .int c]) => (a, b, c)
        | _ => (0, 0, 0)) = _
      rw [e]
    rw [q]
theorem Trs.get {H : Hp} {xs : List V} {ts : List T3} {i : Nat} {x : V} (h : Trs H xs ts) (e : xs[i]? = some x) : ∃ r a b c, x = .ref r ∧ H r = some (.tup [.int a, .int b, .int c]) ∧ ts[i]? = some (a, b, c) := by
  obtain ⟨h1, rfl⟩ := h
  obtain ⟨r, e1, e2⟩ := (h1 x (List.mem_of_getElem? e)).at
  exact ⟨r, _, _, _, e1, e2, by rw [List.getElem?_map, e]; rfl⟩
theorem Trs.len {H : Hp} {xs : List V} {ts : List T3} (h : Trs H xs ts) : ts.length = xs.length := by
  rw [h.2, List.length_map]
/-- sorted(xs), xs a list of triples of ints -/
def rSorted3 (K : PySem.W.Frag) : List V → Hp → VK → Prop := fun vs H Q => ∃ (a : Addr) (xs : List V) (ts : List T3), vs = [V.ref a] ∧ SqL K H a xs ∧ Trs H xs ts ∧
  ∀ ys us p, Trs H ys us → us.Pairwise (fun p q => lexT q p = false) → us.Perm ts → H p = none → Q (.ref p) (upd H p (.lst ys))
section
variable {X : Cx}
theorem cr_sorted3 : CallR X (.builtin "sorted") (rSorted3 X.K) := by
  intro pins s σ H vs us Q I r h
  obtain ⟨a, xs, ts, rfl, hs, ⟨hx, rfl⟩, q⟩ := h
  obtain ⟨its, rv, hl, hz⟩ := I.list hs
  obtain ⟨u, rfl, ru⟩ := vals1 r
  obtain rfl : u = Value.ref a := ru
  obtain ⟨e1, e2⟩ := refs_back rv fun x m => by
    obtain ⟨t, e, _⟩ := (hx x m).at
    exact ⟨t, e⟩
  refine sorted_tripsO (k := fun u => kT H (backV u)) hl.isList (by rw [← rv.length]; exact hz) (fun v hv => ?_) fun h' d out h1 h2 kp hd hn => ?_
  · obtain ⟨t, rfl⟩ := e2 v hv
    have hm : V.ref t ∈ xs := by rw [e1]; exact List.mem_map.mpr ⟨_, hv, rfl⟩
    obtain ⟨t', e, ht⟩ := (hx _ hm).at
    cases e
    obtain ⟨_, its2, r2, o, ho, hc, n, hd⟩ := I.hok _ _ ht
    cases r2 with
    | cons ra r2 =>
      cases r2 with
      | cons rb r2 =>
        cases r2 with
        | cons rc r2 =>
          cases r2
          obtain ⟨t1, rfl⟩ := ra
          obtain ⟨t2, rfl⟩ := rb
          obtain ⟨t3, rfl⟩ := rc
          exact ⟨t, o, t1, t2, t3, n, rfl, ho, hc, hd⟩
  · have h3 : ∀ u ∈ out, ∃ a, u = Value.ref a := fun u hu => e2 u (h2.perm.mem_iff.mp hu)
    obtain ⟨n, hn⟩ := hn
    have hp : (out.map backV).Perm xs := by
      rw [e1]
      exact h2.perm.map backV
    have hT : ∀ x ∈ out.map backV, IsT3 H x := fun x m => hx x (hp.mem_iff.mp m)
    have hS : ((out.map backV).map (kT H)).Pairwise (fun p q => lexT q p = false) := by
      rw [List.pairwise_map, List.pairwise_map]
      exact h1
    refine ⟨.ref d, upd H d (.lst (out.map backV)), I.laid (t' := s.toks) kp hd ⟨?_, out, n, vals_back h3, hn⟩, rfl, q _ _ d ⟨hT, rfl⟩ hS (hp.map (kT H)) (I.hok.fresh hd)⟩
    rw [hp.length_eq]
    exact hz
end
section
variable {H : Hp} {Q : VK} {K : PySem.W.Frag} {vs : List V}
theorem rd_sorted3 : rSorted3 K vs H Q = ∃ (a : Addr) (xs : List V) (ts : List T3), vs = [V.ref a] ∧ SqL K H a xs ∧ Trs H xs ts ∧
  ∀ ys us p, Trs H ys us → us.Pairwise (fun p q => lexT q p = false) → us.Perm ts → H p = none → Q (.ref p) (upd H p (.lst ys)) := rfl
end
/-! ### triples as data -/
def dT3 (t : T3) : PyData := .tuple [.int t.1, .int t.2.1, .int t.2.2]
theorem dp_t3 {K : PySem.W.Frag} {H : Hp} {x : V} (h : IsT3 H x) : Dp K H x (dT3 (kT H x)) := by
  obtain ⟨r, rfl, e⟩ := h.at
  exact .tup (SqT.of e) (.cons (.int _) (.cons (.int _) (.cons (.int _) .nil)))
theorem dp_trs {K : PySem.W.Frag} {H : Hp} : ∀ {xs : List V} {ts : List T3}, Trs H xs ts → DpAll K H xs (ts.map dT3) := fun {xs ts} h => by
  obtain ⟨h1, rfl⟩ := h
  induction xs with
  | nil => exact .nil
  | cons x xs ih => exact .cons (dp_t3 (h1 x List.mem_cons_self)) (ih fun y m => h1 y (List.mem_cons_of_mem _ m))
theorem lay_t3 : ∀ ts : List T3, PyData.canLayAll0 (ts.map dT3) = true
  | [] => rfl
  | t :: ts => by
    show (PyData.canLay0 (dT3 t) && PyData.canLayAll0 (ts.map dT3)) = true
    rw [lay_t3 ts]
    rfl
theorem depth_t3 : ∀ ts : List T3, PyData.depthAll (ts.map dT3) ≤ 3
  | [] => by decide
  | t :: ts => by
    have := depth_t3 ts
    show max (PyData.depth (dT3 t)) (PyData.depthAll (ts.map dT3)) ≤ 3
    have e : PyData.depth (dT3 t) = 1 := rfl
    omega
theorem shaped_t3 (ts : List T3) : SeqAt.shaped (.tuple (ts.map dT3)) = true := by
  unfold SeqAt.shaped
  have a : PyData.canLay0 (.tuple (ts.map dT3)) = true := lay_t3 ts
  have b : PyData.depth (.tuple (ts.map dT3)) ≤ 64 := by
    have := depth_t3 ts
    show PyData.depthAll (ts.map dT3) + 1 ≤ 64
    omega
  rw [a, decide_eq_true b]
  rfl
end CB
/-! try with several clauses, each with a name or without -/
namespace CB
open PySem PySem.Spec PyProof.Rows L2
abbrev Cl := Value × Option Nat × (Addr → Value → Option Addr → TS)
def endA (i : Option Nat) (D : Ends) : Ends := match i with
  | none => D
  | some i => { nx := fun p q => D.nx (p.set i none) q, rt := D.rt, bk := fun p q => D.bk (p.set i none) q, ct := fun p q => D.ct (p.set i none) q }
def setA (i : Option Nat) (p : L2.St) (a : Addr) : L2.St := match i with
  | none => p
  | some i => p.set i (some (.ref a))
def wA (K : PySem.W.Frag) (Wo : WX) (D : Ends) : List Cl → WX
  | [] => Wo
  | (c, i, ts) :: r => fun cls d p H => ∃ b, PySem.W.exmOne K cls c = some b ∧ (b = true → ∀ a, H a = none → ts a cls d (endA i D) (setA i p a) H) ∧ (b = false → wA K Wo D r cls d p H)
/-- the clauses of the text -/
inductive HdA (X : Cx) : List ExceptHandler → List Cl → Prop
  | nil : HdA X [] []
  | bare {x : Str} {c : Value} {ts : Addr → Value → Option Addr → TS} {b1 : Stmt} {su : List Stmt} {np pp : Pos} {hs : List ExceptHandler} {l : List Cl} (hc : Names X x c)
      (hw : ∀ (a : Addr) (o : Obj) (cls : Value) (d : Option Addr) (pn : List (Addr × Obj)), Zc cls d o → (∃ vs, o.data = .fields vs) → PSs (X.suite a ((a, o) :: pn)) (b1 :: su) (ts a cls d)) (r : HdA X hs l) :
      HdA X (.ExceptHandler (some (.Name x np)) none (b1 :: su) pp :: hs) ((c, none, ts) :: l)
  | named {x n : Str} {c : Value} {i : Nat} {ts : Addr → Value → Option Addr → TS} {b1 : Stmt} {su : List Stmt} {np pp : Pos} {hs : List ExceptHandler} {l : List Cl} (hc : Names X x c) (hi : X.N[i]? = some n) (hn : X.env.kindOf n = some .local)
      (hw : ∀ (a : Addr) (o : Obj) (cls : Value) (d : Option Addr) (pn : List (Addr × Obj)), Zc cls d o → (∃ vs, o.data = .fields vs) → PSs (X.suite a ((a, o) :: pn)) (b1 :: su) (ts a cls d)) (r : HdA X hs l) :
      HdA X (.ExceptHandler (some (.Name x np)) (some n) (b1 :: su) pp :: hs) ((c, some i, ts) :: l)
section
variable {X : Cx} {body : List Stmt} {h1 : ExceptHandler} {hs : List ExceptHandler} {l : List Cl} {pos : Pos} {tb : WX → TS} {Wo : WX}
theorem ps_tryA (hst : X.stack = X.env :: X.outer) (hf : X.env.frame = some X.env.locals) (hN : X.N.Nodup) (tk : Takes X Wo)
    (hb : ∀ (W : WX) (pn : List (Addr × Obj)) (xe : Value → Shared → Prop), Takes (X.tr pn xe) W → PassesOwn (model X.prog X.w) X.A X.env xe → PSs (X.tr pn xe) body (tb W))
    (hh : HdA X (h1 :: hs) l) : PS X (.Try body (h1 :: hs) [] [] pos) (fun D p H => tb (wA X.K Wo D l) D p H) := by
  refine ⟨fun pins s p H D I hgo => ?_⟩
  have ok := I.ok
  have frm : X.A.frames = some (X.env :: X.outer) := by rw [ok.frames, hst]
  refine wpAny_Try_except (wpAny_mono ((hb (wA X.K Wo D l) (X.pn ++ pins) (fun e s₁ => wpAny (model X.prog X.w) X.A (noteFrame e X.env) (fun _ s₂ => wpAny (model X.prog X.w) X.A (setFlight e none) (fun _ s₃ => wpAny (model X.prog X.w) X.A (handleBy e X.env (h1 :: hs)) (SP X pins D) X.xe s₃) X.xe s₂) X.xe s₁)
    (fun u s' xx => ?_) PassesOwn.looking).run [] s p H D (I.toTry _) hgo) (fun f s1 hsp => ?_) (fun e s1 he => he))
  · obtain ⟨a, B, sI, pins', p', H', cls, d, rfl, Jt, nb, up, sky, na, os, ag, wish⟩ := xx
    have J : Inv X pins p' H' sI := Jt.ofTry ok
    have skyB : Sky B (X.env :: X.outer) a (Zc cls d) X.env.locals s'.heap := by rw [← hst]; exact sky
    show wpAny (model X.prog X.w) X.A (noteFrame (.ref a) X.env) _ _ _
    refine Sky.land Zc.steady frm hf skyB fun hp3 fl3 up3 => ?_
    have J3 : Inv X pins p' H' { s' with heap := hp3 } := J.landed nb fl3.1 (up.trans up3) os ag
    obtain ⟨o3, v3, g3, z3, d3⟩ := fl3.there
    have out : ∀ {hp : Heap} {o : Obj} {vs : Array Value}, hp.FunFrames B (X.env :: X.outer) → hp.get? a = some o → o.data = .fields vs → a ∉ frs (X.env :: X.outer) := fun {hp o vs} ff e dd hm => by
      obtain ⟨_, o', e', hnf⟩ := ff.mem hm; rw [e] at e'; cases e'; exact hnf _ dd
    have nfr := out fl3.2.2.1 g3 d3
    have nL : a ≠ X.env.locals := fun z => nfr (List.mem_filterMap.mpr ⟨X.env, List.mem_cons_self, by rw [hf, z]⟩)
    have nF : a ∉ X.fs := fun hm => by obtain ⟨e, he, q⟩ := List.mem_filterMap.mp hm; exact nfr (List.mem_filterMap.mpr ⟨e, List.mem_cons_of_mem _ he, q⟩)
    have S3 := J3.suite g3 d3 na nL nF
    have LT : PySem.W.Looks (model X.prog X.w) hp3 (typeOf (.ref a)) cls := fun A Q E s k q => wpAny_typeOf_ref (k _ _ g3) (by rw [z3.1]; exact q)
    have test : ∀ {x : Str} {np : Pos} {c : Value} (hc : Names X x c) {Q : Value → Shared → Prop} {E : Value → Shared → Prop}, Q c { s' with heap := hp3 } → wpAny (model X.prog X.w) (X.A.mark (some (.ref a))) (eval (.Name x np) X.env) Q E { s' with heap := hp3 } := fun {x np c} hc {Q E} q => by
      obtain ⟨hg, hdb, hm | ⟨hm, hv, hnn⟩⟩ := hc
      · exact ld_glob (X := X.suite a ((a, o3) :: (X.pn ++ pins))) S3 hg hm q hdb
      · exact ld_blt (X := X.suite a ((a, o3) :: (X.pn ++ pins))) S3 hg hm hv q hnn hdb
    have go : ∀ {hs' : List ExceptHandler} {l' : List Cl}, HdA X hs' l' → wA X.K Wo D l' cls d p' H' → wpAny (model X.prog X.w) X.A (handleBy (.ref a) X.env hs') (SP X pins D) X.xe { s' with heap := hp3 } := by
      intro hs' l' hk
      induction hk with
      | nil =>
        intro w
        refine wpAny_handleBy_nil ?_
        obtain ⟨k1, k2, k3, oe, vs, T, oT, ts', he, hz, hd, h1', hr⟩ := id fl3
        unfold PySem.passOn
        refine wpAny_bind (wpAny_field he hd h1' ?_)
        rw [if_neg (show ¬ ((Value.ref T == Value.none) = true) from by simp)]
        have fin : wpAny (model X.prog X.w) X.A (setFlight (.ref a) X.env.frame) (fun _ s4 => wpAny (model X.prog X.w) X.A (throw (.ref a) : Sem Flow) (SP X pins D) X.xe s4) X.xe { s' with heap := hp3 } := by
          rw [hf]
          refine HandSPX.setFlight_upZ fl3 fun h4 hh4 up4 => wpAny_throw (tk _ _ ?_)
          exact ⟨a, B, sI, pins, p', H', cls, d, rfl, J, nb, (up.trans up3).trans up4, .inr (.inr (by rw [hst]; exact hh4)), na, os, ag, w⟩
        first | exact wpAny_bind (wpAny_pure (wpAny_bind fin)) | exact wpAny_bind fin
      | @bare x c ts b1 su np pp hs2 l2 hc hw r ih =>
        intro w
        obtain ⟨b, hb1, hyes, hno⟩ := w
        refine wpAny_handleBy_cons (codeAny_handlers_test ?_) (by intro q; cases q)
        have LM := PySem.W.exm_one (M := model X.prog X.w) (J3.kIn) LT hb1
        refine test hc (LM.here ?_)
        cases b with
        | true =>
          refine codeAny_handlers_suite (HandSPX.lands_againZ fl3 fun h4 fl4 up4 => ?_)
          have J4 : Inv X pins p' H' { s' with heap := h4 } := J.landed nb fl4.1 ((up.trans up3).trans up4) os ag
          obtain ⟨o4, v4, g4, z4, d4⟩ := fl4.there
          have S4 := J4.suite g4 d4 na nL nF
          refine wpAny_mono ((hw a o4 cls d (X.pn ++ pins) z4 ⟨_, d4⟩).run [] _ _ H' _ S4 (hyes rfl a na)) (fun f s6 hsp => ?_) (fun _ _ z => False.elim z)
          cases f with
          | ret u => obtain ⟨v6, p6, H6, S6, r6, q6⟩ := hsp; exact ⟨_, _, _, S6.unsuite ok, r6, q6⟩
          | _ => obtain ⟨p6, H6, S6, q6⟩ := hsp; exact ⟨_, _, S6.unsuite ok, q6⟩
        | false => exact ih (hno rfl)
      | @named x n c i ts b1 su np pp hs2 l2 hc hi hn hw r ih =>
        intro w
        obtain ⟨b, hb1, hyes, hno⟩ := w
        refine wpAny_handleBy_cons (codeAny_handlers_test ?_) (by intro q; cases q)
        have LM := PySem.W.exm_one (M := model X.prog X.w) (J3.kIn) LT hb1
        refine test hc (LM.here ?_)
        cases b with
        | true =>
          refine codeAny_handlers_suite_as (HandSPX.lands_againZ fl3 fun h4 fl4 up4 => ?_)
          have J4 : Inv X pins p' H' { s' with heap := h4 } := J.landed nb fl4.1 ((up.trans up3).trans up4) os ag
          obtain ⟨o4, v4, g4, z4, d4⟩ := fl4.there
          have S4 := J4.suite g4 d4 na nL nF
          refine store_ok (X := X.suite a ((a, o4) :: (X.pn ++ pins))) (v := .ref a) S4 hN hi (.inl hn) rfl (fun s5 S5 => ?_) (.inr hn)
          refine wpAny_mono ((hw a o4 cls d (X.pn ++ pins) z4 ⟨_, d4⟩).run [] s5 _ H' _ S5 (hyes rfl a na)) (fun f s6 hsp => ?_) (fun _ _ z => False.elim z)
          have gone : ∀ {p6 : L2.St} {H6 : Hp} {Q : Shared → Prop}, Inv (X.suite a ((a, o4) :: (X.pn ++ pins))) [] p6 H6 s6 → (∀ s7, Inv X pins (p6.set i none) H6 s7 → Q s7) →
              wpAny (model X.prog X.w) X.A (do bindName X.env n .none; unbindBehindTheSuite X.env n pp) (fun _ s7 => Q s7) X.xe s6 := fun {p6 H6 Q} S6 hq => gone_ok (S6.unsuite ok) hN hi hn hq
          cases f with
          | ret u => obtain ⟨v6, p6, H6, S6, r6, q6⟩ := hsp; exact gone S6 fun s7 J7 => ⟨_, _, _, J7, r6, q6⟩
          | next => obtain ⟨p6, H6, S6, q6⟩ := hsp; exact gone S6 fun s7 J7 => ⟨_, _, J7, q6⟩
          | brk => obtain ⟨p6, H6, S6, q6⟩ := hsp; exact gone S6 fun s7 J7 => ⟨_, _, J7, q6⟩
          | cont => obtain ⟨p6, H6, S6, q6⟩ := hsp; exact gone S6 fun s7 J7 => ⟨_, _, J7, q6⟩
        | false => exact ih (hno rfl)
    exact go hh wish
  · cases f with
    | ret u => obtain ⟨v, p', H', J', r, q⟩ := hsp; exact ⟨v, p', H', J'.ofTry ok, r, q⟩
    | next => obtain ⟨p', H', J', q⟩ := hsp; exact wpAny_execs_nil ⟨p', H', J'.ofTry ok, q⟩
    | brk => obtain ⟨p', H', J', q⟩ := hsp; exact ⟨p', H', J'.ofTry ok, q⟩
    | cont => obtain ⟨p', H', J', q⟩ := hsp; exact ⟨p', H', J'.ofTry ok, q⟩
end
end CB
/-! the program's errors: Malformed (no own __init__), Refused (with its reason) -/
namespace CB
open PySem PySem.Spec PyProof.Rows L2
structure CalX (P : Program) (w : World) (K : PySem.W.Frag) (mg : Str → Option Value) (base : Heap) (x : Str) (k : Nat) (ps : List Str) (sp : Sp) : Prop where
  ok : ∃ f fd, FnOk P w K mg base (L2.CX P w) k f fd ps sp ∧ mg x = some (.ref f) ∧ PySem.W.keepIn K (.ref f) = true ∧ Binds K fd ps []
section
variable {P : Program} {w : World} {K : PySem.W.Frag} {mg : Str → Option Value} {base : Heap}
theorem Dn.calX {x : Str} {st : Stmt} {N ps : List Str} {k : Nat} {sp : Sp} (D : Dn K mg x st ps) (S : FnScope N ps (defScope st)) (len : ∀ vs H Q E, sp vs H Q E → vs.length = ps.length)
    (hbody : ∀ (f : Addr) (cdv : Value) (A : Around) (outer : List Env) (s : Shared) (H : Hp) (vs : List V) (Q : VK) (E : XK), Room k (A.deeper (envOfC x (defScope st) s.heap.objs.size f cdv)) → sp vs H Q E →
      ∃ t, PSs (cxOf (L2.CX P w) P w K mg base N x (defScope st) f cdv A outer s H E) (defBody st) t ∧ t { nx := fun _ H' => Q .non H', rt := Q } (start N vs) H) : CalX P w K mg base x (k + 1) ps sp := by
  obtain ⟨f, fd, F, hm, hb⟩ := D.ok
  exact ⟨f, fd, F.okX S len fun cdv A outer s H vs Q E hr h => hbody f cdv A outer s H vs Q E hr h, hm, F.kp, hb⟩
end
section
variable {X : Cx} {k : Nat} {ps : List Str} {sp : Sp} {x : Str} {p pos : Pos} {e : Expr} {es : List Expr} {t : TA} {W : WX}
/-- a call that may raise, W what is wished of what it raises -/
theorem pe_calS (C : CalX X.prog X.w X.K X.mg X.base x k ps sp) (tk : Takes X W) (hr : Room k X.A) (hg : Gl X x) (ha : PA X (e :: es) t) (hdb : (x == ("__debug__" : Str)) = false := by decide)
    (he : starEach (e :: es) X.env = (false, eval e X.env) :: starEach es X.env := by rfl) (hpl : (backTo pos (starEach es X.env)).any (·.1) = false := by rfl) : PE X (.Call (.Name x p) (e :: es) [] pos) (tCallS sp (WE W) t) := by
  obtain ⟨f, fd, F, hm, hk, hb⟩ := C.ok
  exact pe_callS F hr hg hm hk hb (fun σ => passAt tk σ) ha hdb he hpl
end
abbrev veB : List Value := [.type "ValueError", .type "Exception", .type "BaseException", .type "object"]
structure ErrM (K : PySem.W.Frag) (mg : Str → Option Value) (C : Addr) : Prop where
  g : mg "Malformed" = some (.ref C)
  x : PySem.W.excIn K C veB "ValueError.__new__" = true
  k : PySem.W.keepIn K (.ref C) = true
  b : PySem.W.subIn K (.ref C) (.type "BaseException") = some true
  t : PySem.W.typeIn K (.ref C) = some (.type "type")
  mm : PySem.W.exmOne K (.ref C) (.ref C) = some true
structure ErrO (K : PySem.W.Frag) (mg : Str → Option Value) (C : Addr) : Prop where
  m : ErrM K mg C
structure ErrR (K : PySem.W.Frag) (mg : Str → Option Value) (M C f : Addr) : Prop where
  g : mg "Refused" = some (.ref C)
  ox : OexC K C
  i : PySem.W.findIn K (.ref C) "__init__" = some (some (.ref f))
  t : PySem.W.typeIn K (.ref f) = some (.type "function")
  n : PySem.W.findIn K (.ref C) "reason" = some none
  xf : XfC K C
  rm : PySem.W.exmOne K (.ref C) (.ref M) = some false
  rr : PySem.W.exmOne K (.ref C) (.ref C) = some true
/-- Refused.__init__(self, reason) -/
def spRI (K : PySem.W.Frag) : Sp := fun vs H Q _ => ∃ (a C : Addr) (v : V), vs = [.ref a, v] ∧ OexC K C ∧ PySem.W.findIn K (.ref C) "reason" = some none ∧ H a = some (exo a C none) ∧
  ∀ dx, H dx = none → dx ≠ a → Q .non (upd (upd H dx (exd dx [("reason", v)])) a (exo a C (some dx)))
structure ErrI (P : Program) (w : World) (K : PySem.W.Frag) (mg : Str → Option Value) (base : Heap) (M C : Addr) : Prop where
  m : ErrM K mg M
  r : ∃ f fd, ErrR K mg M C f ∧ FnOk P w K mg base CX0 1 f fd ["self", "reason"] (spRI K) ∧ Binds K fd ["self", "reason"] []
section
variable {P : Program} {w : World} {K : PySem.W.Frag} {mg : Str → Option Value} {base : Heap} {M C : Addr}
end
/-- raise Malformed('..') -/
theorem ps_mal {X : Cx} {W : WX} {M : Addr} {m : Str} {j : Nat} {p p2 pos pp : Pos} (E : ErrM X.K X.mg M) (hc : X.calm = true) (tk : Takes X W) (hg : Gl X "Malformed") : PS X (.Raise (some (.Call (.Name "Malformed" p) [.Constant (.str m) j p2] [] pos)) none pp) (fun _ σ H => W (.ref M) none σ H) :=
  ps_raise hc tk (pmk_own PySem.F.excBase_ValueError E.x E.g E.k (raises_own E.b E.t) hg)
/-- raise Refused('..') -/
theorem ps_ref {X : Cx} {W : WX} {M C : Addr} {m : Str} {j : Nat} {p p2 pos pp : Pos} (E : ErrI X.prog X.w X.K X.mg X.base M C) (hc : X.calm = true) (tk : Takes X W) (hr : Room 2 X.A) (hg : Gl X "Refused") (hs : starEach [Expr.Constant (.str m) j p2] X.env = (false, eval (Expr.Constant (.str m) j p2) X.env) :: starEach [] X.env := by rfl)
    (hpl : (backTo pos (starEach [] X.env)).any (·.1) = false := by rfl) :
    PS X (.Raise (some (.Call (.Name "Refused" p) [.Constant (.str m) j p2] [] pos)) none pp) (fun _ σ H => ∀ d H', Same H H' → H d = none → H' d = some (.xd [("reason", .str m)]) → W (.ref C) (some d) σ H') := by
  obtain ⟨f, fd, R, F, b⟩ := E.r
  refine ⟨fun pins s σ H D I h => ?_⟩
  refine (ps_raise hc tk (pmk_oex R.ox R.i R.t F hr b .nil pass0 hg R.g (pa_cons pe_str pa_nil hs) rfl hs hpl)).run pins s σ H D I ?_
  show ([V.str m].length ≤ 1000 ∧ _)
  refine ⟨by show 1 ≤ 1000; decide, fun a na => ⟨a, C, .str m, rfl, R.ox, R.n, upd_same, fun dx ndx ne => ⟨rfl, dx, [("reason", .str m)], upd_same, ?_, ?_, ?_⟩⟩⟩
  · rw [upd_ne ne, upd_same]
  · rw [upd_ne ne] at ndx
    exact ndx
  · rw [upd_ne ne] at ndx
    refine h dx _ (fun b o e => ?_) ndx upd_same
    have hbd : b ≠ dx := ne_of_none e ndx
    have hba : b ≠ a := ne_of_none e na
    rw [upd_ne hbd, del_ne hba, upd_ne hba, upd_ne hbd, upd_ne hba]
    exact e
end CB
namespace CB
open PySem PySem.Spec PyProof.Rows L2
theorem exm_b {K : PySem.W.Frag} {S C : Addr} {b : Bool} (h1 : PySem.W.subIn K (.ref C) (.type "BaseException") = some true) (h2 : PySem.W.isClsIn K C = true) (h3 : PySem.W.typeIn K (.ref C) = some (.type "type")) (h4 : PySem.W.subIn K (.ref S) (.ref C) = some b) :
    PySem.W.exmOne K (.ref S) (.ref C) = some b := by
  unfold PySem.W.exmOne
  rw [if_pos (by rw [h1] <;> rfl)]
  show (if ((PySem.W.clsIn K C).isSome && PySem.W.typeIn K (.ref C) == some (.type "type")) = true then PySem.W.subIn K (.ref S) (.ref C) else none) = some b
  have h5 : (PySem.W.clsIn K C).isSome = true := h2
  rw [h5, h3, if_pos (by rfl)]
  exact h4
theorem dn_mk {K : PySem.W.Frag} {h : Heap} {mg : Str → Option Value} {x : Str} {st : Stmt} {ps : List Str} {f : Addr} {oc : Value} {od an : Option Addr} {osl : Array (Option Value)} {kV doc pm cdv ct : Value} (X : K.In h) (G : h.Ns mainGlobals mg)
    (a : PySem.W.nsIn K mainGlobals x = some (some (.ref f))) (l : K.lookup f = some ⟨oc, od, .func (PySem.W.fnOf x x (defArgs st) (defBody st) (defScope st) .none kV doc pm an cdv ct), osl⟩) (c : PySem.W.codeIn K cdv x = true) (k : PySem.W.keepIn K (.ref f) = true)
    (hb : ∀ (kV doc pm : Value) (an : Option Addr) (cdv ct : Value) (us : List Value), us.length = ps.length → bindArgs (PySem.W.fnOf x x (defArgs st) (defBody st) (defScope st) .none kV doc pm an cdv ct) ⟨us, []⟩ = pure (ps.zip us)) : Dn K mg x st ps :=
  ⟨f, _, fun_mk l c k, PySem.W.mg_of X G a, (fun_mk l c k).binds hb⟩
end CB
/-! sorted of a list of pairs of pairs of ints -/
namespace CB
open PySem PySem.Spec PyProof.Rows Srt SrtO L2
abbrev M4 := (Int × Int) × (Int × Int)
def dM (m : M4) : PyData := .tuple [.tuple [.int m.1.1, .int m.1.2], .tuple [.int m.2.1, .int m.2.2]]
def lexM (p q : M4) : Bool := if p.1 = q.1 then lexB p.2 q.2 else lexB p.1 q.1
theorem alike_M (p q : M4) : PySem.W.alike (dM p) (dM q) = true := by
  simp [dM, PySem.W.alike, PySem.W.alikeAll]
theorem eqv_pp (a b c d : Int) : PyData.eqv (.tuple [.int a, .int b]) (.tuple [.int c, .int d]) = decide ((a, b) = (c, d)) := by
  have e : PyData.eqv (.tuple [.int a, .int b]) (.tuple [.int c, .int d]) = ((a == c) && ((b == d) && true)) := rfl
  rw [e]
  by_cases h1 : a = c
  · by_cases h2 : b = d
    · simp [h1, h2]
    · simp [h2]
  · simp [h1]
theorem lt_pp (p q : Int × Int) : PySem.W.dataLt (.tuple [.int p.1, .int p.2]) (.tuple [.int q.1, .int q.2]) = lexB p q := by
  rw [PySem.W.dataLt_ii]
  have h := @lexB_iff p q
  cases hb : lexB p q with
  | true => exact decide_eq_true (h.mp hb)
  | false => exact decide_eq_false fun z => by rw [h.mpr z] at hb; cases hb
theorem lt_M (p q : M4) : PySem.W.dataLt (dM p) (dM q) = lexM p q := by
  unfold dM lexM
  rw [PySem.W.dataLt_pair (by simp [PySem.W.alike, PySem.W.alikeAll]) (by simp [PySem.W.alike, PySem.W.alikeAll]), eqv_pp, eqv_pp, lt_pp, lt_pp]
  by_cases h1 : p.1 = q.1
  · rw [if_pos (decide_eq_true h1), if_pos h1]
    by_cases h2 : p.2 = q.2
    · rw [if_pos (decide_eq_true h2), h2]
      symm
      cases hb : lexB q.2 q.2 with
      | false => rfl
      | true =>
        have := lexB_iff.mp hb
        omega
    · rw [if_neg (fun z => h2 (of_decide_eq_true z))]
  · rw [if_neg (fun z => h1 (of_decide_eq_true z)), if_neg h1]
theorem lexM_iff {p q : M4} : lexM p q = true ↔ (p.1.1 < q.1.1 ∨ (p.1.1 = q.1.1 ∧ (p.1.2 < q.1.2 ∨ (p.1.2 = q.1.2 ∧ (p.2.1 < q.2.1 ∨ (p.2.1 = q.2.1 ∧ p.2.2 < q.2.2)))))) := by
  obtain ⟨⟨a, b⟩, ⟨c, d⟩⟩ := p
  obtain ⟨⟨a', b'⟩, ⟨c', d'⟩⟩ := q
  unfold lexM
  by_cases e : (a, b) = (a', b')
  · rw [if_pos e, lexB_iff]
    have e1 : a = a' := congrArg Prod.fst e
    have e2 : b = b' := congrArg Prod.snd e
    simp only
    omega
  · rw [if_neg e, lexB_iff]
    have : ¬ (a = a' ∧ b = b') := fun z => e (by rw [z.1, z.2])
    simp only
    omega
theorem lexM_no {p q : M4} : lexM p q = false ↔ ¬ (p.1.1 < q.1.1 ∨ (p.1.1 = q.1.1 ∧ (p.1.2 < q.1.2 ∨ (p.1.2 = q.1.2 ∧ (p.2.1 < q.2.1 ∨ (p.2.1 = q.2.1 ∧ p.2.2 < q.2.2)))))) := by
  rw [← lexM_iff]
  cases lexM p q <;> simp
theorem lexM_eq {p q : M4} (h1 : lexM p q = false) (h2 : lexM q p = false) : p = q := by
  have a := lexM_no.mp h1
  have b := lexM_no.mp h2
  obtain ⟨⟨p1, p2⟩, ⟨p3, p4⟩⟩ := p
  obtain ⟨⟨q1, q2⟩, ⟨q3, q4⟩⟩ := q
  simp only at a b
  have e1 : p1 = q1 := by omega
  have e2 : p2 = q2 := by omega
  have e3 : p3 = q3 := by omega
  have e4 : p4 = q4 := by omega
  rw [e1, e2, e3, e4]
theorem srtM_uniq {l m : List M4} (h1 : l.Pairwise (fun p q => lexM q p = false)) (h2 : m.Pairwise (fun p q => lexM q p = false)) (h : l.Perm m) : l = m :=
  List.Perm.eq_of_pairwise (le := fun p q => lexM q p = false) (fun a b _ _ x y => lexM_eq y x) h1 h2 h
/-- x is, in H, the tuple m of tuples -/
def IsM (H : Hp) (x : V) (m : M4) : Prop := ∃ r r1 r2, x = V.ref r ∧ H r = some (.tup [.ref r1, .ref r2]) ∧ H r1 = some (.tup [.int m.1.1, .int m.1.2]) ∧ H r2 = some (.tup [.int m.2.1, .int m.2.2])
theorem IsM.fn {H : Hp} {x : V} {m m' : M4} (h : IsM H x m) (h' : IsM H x m') : m = m' := by
  obtain ⟨r, r1, r2, rfl, e, e1, e2⟩ := h
  obtain ⟨_, _, _, q, f, f1, f2⟩ := h'
  cases q
  rw [e] at f
  cases f
  rw [e1] at f1
  rw [e2] at f2
  obtain ⟨⟨a, b⟩, ⟨c, d⟩⟩ := m
  obtain ⟨⟨a', b'⟩, ⟨c', d'⟩⟩ := m'
  simp only [Option.some.injEq, HO.tup.injEq, List.cons.injEq, V.int.injEq, and_true] at f1 f2
  rw [f1.1, f1.2, f2.1, f2.2]
theorem IsM.same {H H' : Hp} {x : V} {m : M4} (s : Same H H') (h : IsM H x m) : IsM H' x m := by
  obtain ⟨r, r1, r2, q, e, e1, e2⟩ := h
  exact ⟨r, r1, r2, q, s _ _ e, s _ _ e1, s _ _ e2⟩
open Classical in
noncomputable def kM (H : Hp) (x : V) : M4 := if h : ∃ m, IsM H x m then h.choose else ((0, 0), (0, 0))
theorem IsM.k {H : Hp} {x : V} {m : M4} (h : IsM H x m) : kM H x = m := by
  unfold kM
  rw [dif_pos ⟨m, h⟩]
  exact (Exists.choose_spec (⟨m, h⟩ : ∃ m, IsM H x m)).fn h
/-- the list of such tuples at the xs -/
def Mats (H : Hp) (xs : List V) (ms : List M4) : Prop := (∀ x ∈ xs, IsM H x (kM H x)) ∧ ms = xs.map (kM H)
theorem Mats.same {H H' : Hp} {xs : List V} {ms : List M4} (s : Same H H') (h : Mats H xs ms) : Mats H' xs ms := by
  obtain ⟨h1, rfl⟩ := h
  have e : ∀ x ∈ xs, kM H' x = kM H x := fun x m => ((h1 x m).same s).k
  exact ⟨fun x m => by rw [e x m]; exact (h1 x m).same s, List.map_congr_left fun x m => (e x m).symm⟩
theorem Mats.keep {H H' : Hp} {xs : List V} {ms : List M4} (s : ∀ r us, H r = some (.tup us) → H' r = some (.tup us)) (h : Mats H xs ms) : Mats H' xs ms := by
  obtain ⟨h1, rfl⟩ := h
  have g : ∀ x ∈ xs, IsM H' x (kM H x) := fun x m => by
    obtain ⟨r, r1, r2, q, e, e1, e2⟩ := h1 x m
    exact ⟨r, r1, r2, q, s _ _ e, s _ _ e1, s _ _ e2⟩
  exact ⟨fun x m => by rw [(g x m).k]; exact g x m, List.map_congr_left fun x m => ((g x m).k).symm⟩
theorem Mats.updL {H : Hp} {f : Addr} {l : List V} {o : HO} {xs : List V} {ms : List M4} (h : Mats H xs ms) (e : H f = some (.lst l)) : Mats (upd H f o) xs ms :=
  h.keep fun r us q => by rw [upd_ne (ne_of q e (by intro z; cases z))]; exact q
theorem Mats.updN {H : Hp} {f : Addr} {o : HO} {xs : List V} {ms : List M4} (h : Mats H xs ms) (e : H f = none) : Mats (upd H f o) xs ms := h.same (same_upd e)
theorem Mats.nil {H : Hp} : Mats H [] [] := ⟨fun x m => by simp at m, rfl⟩
theorem Mats.snoc {H : Hp} {xs : List V} {ms : List M4} {x : V} {m : M4} (h : Mats H xs ms) (e : IsM H x m) : Mats H (xs ++ [x]) (ms ++ [m]) := by
  obtain ⟨h1, rfl⟩ := h
  refine ⟨fun y hy => ?_, ?_⟩
  · rcases List.mem_append.mp hy with hy | hy
    · exact h1 y hy
    · rw [List.mem_singleton.mp hy, e.k]
      exact e
  · rw [List.map_append, List.map_singleton, e.k]
theorem Mats.get {H : Hp} {xs : List V} {ms : List M4} {i : Nat} {x : V} (h : Mats H xs ms) (e : xs[i]? = some x) : ∃ m, IsM H x m ∧ ms[i]? = some m := by
  obtain ⟨h1, rfl⟩ := h
  exact ⟨_, h1 x (List.mem_of_getElem? e), by rw [List.getElem?_map, e]; rfl⟩
theorem Mats.len {H : Hp} {xs : List V} {ms : List M4} (h : Mats H xs ms) : ms.length = xs.length := by
  rw [h.2, List.length_map]
theorem dp_M {K : PySem.W.Frag} {H : Hp} {x : V} {m : M4} (h : IsM H x m) : Dp K H x (dM m) := by
  obtain ⟨r, r1, r2, rfl, e, e1, e2⟩ := h
  exact .tup (SqT.of e) (.cons (.tup (SqT.of e1) (.cons (.int _) (.cons (.int _) .nil))) (.cons (.tup (SqT.of e2) (.cons (.int _) (.cons (.int _) .nil))) .nil))
theorem dp_Ms {K : PySem.W.Frag} {H : Hp} : ∀ {xs : List V} {ms : List M4}, Mats H xs ms → DpAll K H xs (ms.map dM) := fun {xs ms} h => by
  obtain ⟨h1, rfl⟩ := h
  induction xs with
  | nil => exact .nil
  | cons x xs ih => exact .cons (dp_M (h1 x List.mem_cons_self)) (ih fun y m => h1 y (List.mem_cons_of_mem _ m))
theorem lay_M : ∀ ms : List M4, PyData.canLayAll0 (ms.map dM) = true
  | [] => rfl
  | m :: ms => by
    show (PyData.canLay0 (dM m) && PyData.canLayAll0 (ms.map dM)) = true
    rw [lay_M ms]
    rfl
theorem depth_M : ∀ ms : List M4, PyData.depthAll (ms.map dM) ≤ 3
  | [] => by decide
  | m :: ms => by
    have := depth_M ms
    show max (PyData.depth (dM m)) (PyData.depthAll (ms.map dM)) ≤ 3
    have e : PyData.depth (dM m) = 2 := rfl
    omega
theorem shaped_M (ms : List M4) : SeqAt.shaped (.tuple (ms.map dM)) = true := by
  unfold SeqAt.shaped
  have a : PyData.canLay0 (.tuple (ms.map dM)) = true := lay_M ms
  have b : PyData.depth (.tuple (ms.map dM)) ≤ 64 := by
    have := depth_M ms
    show PyData.depthAll (ms.map dM) + 1 ≤ 64
    omega
  rw [a, decide_eq_true b]
  rfl
/-- sorted(xs), xs a list of pairs of pairs -/
def rSortedM (K : PySem.W.Frag) : List V → Hp → VK → Prop := fun vs H Q => ∃ (a : Addr) (xs : List V) (ms : List M4), vs = [V.ref a] ∧ SqL K H a xs ∧ Mats H xs ms ∧
  ∀ ys us p, Mats H ys us → us.Pairwise (fun p q => lexM q p = false) → us.Perm ms → H p = none → Q (.ref p) (upd H p (.lst ys))
theorem rd_sortedM {K : PySem.W.Frag} {vs : List V} {H : Hp} {Q : VK} : rSortedM K vs H Q = ∃ (a : Addr) (xs : List V) (ms : List M4), vs = [V.ref a] ∧ SqL K H a xs ∧ Mats H xs ms ∧
  ∀ ys us p, Mats H ys us → us.Pairwise (fun p q => lexM q p = false) → us.Perm ms → H p = none → Q (.ref p) (upd H p (.lst ys)) := rfl
section
variable {X : Cx}
theorem each_vals : ∀ {vs : List Value} {xs : List V}, Vals xs vs → PySem.W.EachIs (fun v x => RelV x v) vs xs
  | _, _, .nil => .nil
  | _, _, .cons r h => .cons r (each_vals h)
theorem vals_each : ∀ {vs : List Value} {xs : List V}, PySem.W.EachIs (fun v x => RelV x v) vs xs → Vals xs vs
  | _, _, .nil => .nil
  | _, _, .cons r h => .cons r (vals_each h)
theorem cr_sortedM (hu : X.A.units + 64 < cLine) : CallR X (.builtin "sorted") (rSortedM X.K) := by
  intro pins s σ H vs us Q I r h
  obtain ⟨a, xs, ms, rfl, hs, ⟨hx, rfl⟩, q⟩ := h
  obtain ⟨its, rv, hl, hz⟩ := I.list hs
  obtain ⟨u, rfl, ru⟩ := vals1 r
  obtain rfl : u = Value.ref a := ru
  have hlen := rv.length
  have e0 : PySem.W.EachIs (fun v x => RelV x v) its xs := each_vals rv
  have mem : PySem.W.EachIs (fun v (x : V) => ∃ as, Reads s.heap v (dM (kM H x)) as) its xs := by
    refine PySem.W.EachIs.of_zip (by omega) fun p hp => ?_
    exact Dp.reads I _ _ _ (dp_M (hx p.2 (List.of_mem_zip hp).2)) (e0.zip p hp)
  refine PySem.W.sorted_data (s := s) (β := V) (R := fun v x => RelV x v) (enc := fun x => dM (kM H x)) hl.isList e0 mem (PySem.W.AllAlike.of fun b b' => alike_M _ _) (PySem.W.Sortable.tuples fun b => ⟨_, _, rfl⟩) (by omega) (fun b _ => ?_) fun out ho eo => ?_
  · have : PyData.depth (dM (kM H b)) = 2 := rfl
    omega
  · have ep : (fun b b' : V => PySem.W.dataLe false (fun x => dM (kM H x)) b b') = fun b b' => !lexM (kM H b') (kM H b) := by
      rw [PySem.W.dataLe_eq]
      funext b b'
      show (!PySem.W.dataLt (dM (kM H b')) (dM (kM H b))) = _
      rw [lt_M]
    have hp : (xs.mergeSort (PySem.W.dataLe false (fun x => dM (kM H x)))).Perm xs := List.mergeSort_perm xs _
    have hT : ∀ x ∈ xs.mergeSort (PySem.W.dataLe false (fun x => dM (kM H x))), IsM H x (kM H x) := fun x m => hx x (hp.mem_iff.mp m)
    have hS : ((xs.mergeSort (PySem.W.dataLe false (fun x => dM (kM H x)))).map (kM H)).Pairwise (fun p q => lexM q p = false) := by
      rw [List.pairwise_map]
      have := List.pairwise_mergeSort (le := fun b b' : V => !lexM (kM H b') (kM H b)) (fun x y z h1 h2 => ?_) (fun x y => ?_) xs
      · rw [show PySem.W.dataLe false (fun x => dM (kM H x)) = fun b b' => !lexM (kM H b') (kM H b) from ep]
        exact this.imp fun h => by simpa using h
      · have a1 := lexM_no.mp (by simpa using h1 : lexM (kM H y) (kM H x) = false)
        have a2 := lexM_no.mp (by simpa using h2 : lexM (kM H z) (kM H y) = false)
        have : lexM (kM H z) (kM H x) = false := lexM_no.mpr (by omega)
        simp [this]
      · by_cases c : lexM (kM H y) (kM H x) = true
        · have a1 := lexM_iff.mp c
          have : lexM (kM H x) (kM H y) = false := lexM_no.mpr (by omega)
          simp [this]
        · simp [Bool.not_eq_true _ |>.mp c]
    obtain ⟨n, hn⟩ := sortedAll_at s.heap its (List.toArray out)
    refine ⟨.ref (s.heap.objs.size + 1), upd H (s.heap.objs.size + 1) (.lst (xs.mergeSort (PySem.W.dataLe false (fun x => dM (kM H x))))), I.laid (t' := s.toks) (fun b o e => sortedAll_old e) (Nat.le_succ _) ⟨?_, out, n, vals_each eo, hn⟩, rfl, q _ _ _ ⟨hT, rfl⟩ hS (hp.map (kM H)) (I.hok.fresh (Nat.le_succ _))⟩
    rw [hp.length_eq]
    omega
end
end CB
/-! a call of what an expression tells, one of several defs -/
namespace CB
open PySem PySem.Spec PyProof.Rows L2
structure HeldE (P : Program) (w : World) (K : PySem.W.Frag) (mg : Str → Option Value) (base : Heap) (kk : Nat) (f : Addr) (sp : Sp) : Prop where
  ex : ∃ (k : Nat) (fd : FuncData) (ps : List Str), k ≤ kk ∧ FnOk P w K mg base (L2.CX P w) k f fd ps sp ∧ PySem.W.keepIn K (.ref f) = true ∧ Binds K fd ps []
def tCallE (S : Addr → Sp → Prop) (E : L2.St → XK) (tf : TE) (t : TA) : TE := fun σ H Q => tf σ H fun y H1 => ∃ f sp, y = V.ref f ∧ S f sp ∧ t σ H1 fun vs H2 => sp vs H2 Q (E σ)
section
variable {X : Cx} {S : Addr → Sp → Prop} {kk : Nat} {p pos : Pos} {fe e : Expr} {es : List Expr} {tf : TE} {t : TA} {W : WX}
theorem pe_callE (A : ∀ f sp, S f sp → HeldE X.prog X.w X.K X.mg X.base kk f sp) (tk : Takes X W) (hr : Room kk X.A) (hf : PE X fe tf) (ha : PA X (e :: es) t)
    (ht : eval (.Call fe (e :: es) [] pos) X.env = (do callWith pos (← eval fe X.env) [] (backTo pos (starEach (e :: es) X.env)) (backToKw pos (keywordEach [] X.env))) := by rfl)
    (he : starEach (e :: es) X.env = (false, eval e X.env) :: starEach es X.env := by rfl) (hpl : (backTo pos (starEach es X.env)).any (·.1) = false := by rfl) : PE X (.Call fe (e :: es) [] pos) (tCallE S (WE W) tf t) := by
  refine ⟨fun pins s σ H Q I h => ?_⟩
  refine Call_ (thn (hf.run pins s σ H _ I h) fun u s1 ⟨y, H1, I1, ry, f, sp, ey, hS, q⟩ => ?_) ht
  subst ey
  obtain rfl : u = Value.ref f := ry
  obtain ⟨k, fd, ps, hk, F, hkeep, hb⟩ := (A f sp hS).ex
  refine PySem.W.callWith_K (h₀ := X.base) I1.ok.mod.kin hkeep (thn (ha.run pos pins s1 σ H1 _ I1 q) fun us s2 ⟨vs, H2, I2, r, q2⟩ => ⟨I2.kIn, ?_⟩) he hpl
  exact run_fnS F (hr.mono hk) hb (passAt tk σ) I2 r q2
end
theorem rd_callE {S : Addr → Sp → Prop} {E : L2.St → XK} {tf : TE} {t : TA} {σ : L2.St} {H : Hp} {Q : VK} : tCallE S E tf t σ H Q = tf σ H fun y H1 => ∃ f sp, y = V.ref f ∧ S f sp ∧ t σ H1 fun vs H2 => sp vs H2 Q (E σ) := rfl
theorem CalX.held {P : Program} {w : World} {K : PySem.W.Frag} {mg : Str → Option Value} {base : Heap} {x : Str} {k kk : Nat} {ps : List Str} {sp : Sp} (C : CalX P w K mg base x k ps sp) (h : k ≤ kk) : ∃ f, mg x = some (.ref f) ∧ HeldE P w K mg base kk f sp := by
  obtain ⟨f, fd, F, hm, hk, hb⟩ := C.ok
  exact ⟨f, hm, ⟨k, fd, ps, h, F, hk, hb⟩⟩
end CB
/-! dicts with int keys, list.pop: readings unfolded -/
namespace CB
open PySem PySem.Spec PyProof.Rows L2
section
variable {K : PySem.W.Frag} {σ : L2.St} {H : Hp} {Q : VK} {td ty tx tv to : TE} {D : Ends}
theorem rd_pop : tBM0 K "list" rPop to σ H Q = to σ H fun x H1 => tyV K "list" x H1 ∧ ∃ l xs y, x = .ref l ∧ H1 l = some (.lst xs) ∧ xs[xs.length - 1]? = some y ∧ Q y (upd H1 l (.lst xs.dropLast)) := by
  show (to σ H fun x H1 => tyV K "list" x H1 ∧ ∃ l xs y, x = V.ref l ∧ ([] : List V) = [] ∧ _) = _
  congr 1
  funext x H1
  simp
theorem rd_dnew : tDNewK σ H Q = ∀ p, H p = none → Q (.ref p) (upd H p (.dK [])) := rfl
theorem rd_dget : tDGet td ty σ H Q = td σ H fun x H1 => ty σ H1 fun y H2 => ∃ a v, x = .ref a ∧ DGet H2 a y (some v) ∧ Q v H2 := rfl
theorem rd_dget2 : tDGet2 td ty tx σ H Q = td σ H fun x H1 => ∃ a, x = .ref a ∧ IsD H1 a ∧ ty σ H1 fun y H2 => tx σ H2 fun z H3 => ∃ o, DGet H3 a y o ∧ Q (o.getD z) H3 := rfl
theorem rd_dput : sDPut td ty tv D σ H = tv σ H fun v H1 => td σ H1 fun x H2 => ty σ H2 fun y H3 => ∃ a H4, x = .ref a ∧ DPut H3 a y v H4 ∧ D.nx σ H4 := rfl
end
/-- a dict of ints by a list of pairs -/
def dI (l : List (Nat × Nat)) : List (Key × V) := l.map fun q => (Sum.inl (q.1 : Int), V.int (q.2 : Int))
def getC (l : List (Nat × Nat)) (p : Nat) : Option Nat := (l.find? fun q => decide (q.1 = p)).map (·.2)
theorem val_dI (l : List (Nat × Nat)) (p : Nat) : valV (dI l) (Sum.inl (p : Int)) = (getC l p).map fun c : Nat => V.int (c : Int) := by
  unfold valV dI getC
  induction l with
  | nil => rfl
  | cons q l ih =>
    rw [List.map_cons, List.find?_cons, List.find?_cons]
    have e : decide ((Sum.inl (q.1 : Int) : Key) = Sum.inl (p : Int)) = decide (q.1 = p) := by
      by_cases c : q.1 = p
      · rw [decide_eq_true c, decide_eq_true (by rw [c])]
      · rw [decide_eq_false c, decide_eq_false (fun z => c (by have := Sum.inl.inj z; omega))]
    show Option.map _ (match decide ((Sum.inl (q.1 : Int) : Key) = Sum.inl (p : Int)) with | true => _ | false => _) = _
    rw [e]
    cases decide (q.1 = p) with
    | true => rfl
    | false => exact ih
/-- one more of p -/
def bumpC (l : List (Nat × Nat)) (p c : Nat) : List (Nat × Nat) := if (l.any fun q => decide (q.1 = p)) = true then l.map (fun q => if q.1 = p then (q.1, c) else q) else l ++ [(p, c)]
theorem put_dI (l : List (Nat × Nat)) (p c : Nat) : putK (dI l) (Sum.inl (p : Int)) (V.int (c : Int)) = dI (bumpC l p c) := by
  have e : ∀ n : Nat, decide ((Sum.inl (n : Int) : Key) = Sum.inl (p : Int)) = decide (n = p) := fun n => by
    by_cases c : n = p
    · rw [decide_eq_true c, decide_eq_true (by rw [c])]
    · rw [decide_eq_false c, decide_eq_false (fun z => c (by have := Sum.inl.inj z; omega))]
  have ea : (dI l).any (fun kv => decide (kv.1 = (Sum.inl (p : Int) : Key))) = l.any fun q => decide (q.1 = p) := by
    unfold dI
    rw [List.any_map]
    congr 1
    funext q
    exact e q.1
  unfold putK bumpC
  rw [ea]
  by_cases h : (l.any fun q => decide (q.1 = p)) = true
  · rw [if_pos h, if_pos h]
    unfold dI
    rw [List.map_map, List.map_map]
    refine List.map_congr_left fun q _ => ?_
    show (if (Sum.inl (q.1 : Int) : Key) = Sum.inl (p : Int) then _ else _) = _
    by_cases c : q.1 = p
    · rw [if_pos (by rw [c])]
      show _ = (fun q : Nat × Nat => ((Sum.inl (q.1 : Int) : Key), V.int (q.2 : Int))) (if q.1 = p then _ else _)
      rw [if_pos c]
    · rw [if_neg (fun z => c (by have := Sum.inl.inj z; omega))]
      show _ = (fun q : Nat × Nat => ((Sum.inl (q.1 : Int) : Key), V.int (q.2 : Int))) (if q.1 = p then _ else _)
      rw [if_neg c]
  · rw [if_neg h, if_neg h]
    unfold dI
    rw [List.map_append]
    rfl
theorem dget_I {H : Hp} {a : Addr} {l : List (Nat × Nat)} {p : Nat} (e : H a = some (.dK (dI l))) : DGet H a (.int (p : Int)) ((getC l p).map fun c : Nat => V.int (c : Int)) := by
  have := DGet.k (k := Sum.inl (p : Int)) e
  rw [val_dI] at this
  exact this
theorem dput_I {H : Hp} {a : Addr} {l : List (Nat × Nat)} {p c : Nat} (e : H a = some (.dK (dI l))) (hl : l.length < sizeLine) : DPut H a (.int (p : Int)) (.int (c : Int)) (upd H a (.dK (dI (bumpC l p c)))) := by
  have := DPut.k (k := Sum.inl (p : Int)) (v := .int (c : Int)) e (by unfold dI; rw [List.length_map]; exact hl)
  rw [put_dI] at this
  exact this
end CB
/-! any of ints; enumerate of a tuple; a tuple times an int, few times -/
namespace CB
open PySem PySem.Spec PyProof.Rows L2
/-! ### any(ints), a list or a tuple -/
theorem vals_int : ∀ {ns : List Int} {us : List Value}, Vals (ns.map V.int) us → ∃ ts : List Tok, ts.length = ns.length ∧ us = List.zipWith Value.int ns ts
  | [], us, h => by
    rw [List.map_nil] at h
    cases h
    exact ⟨[], rfl, rfl⟩
  | n :: ns, us, h => by
    rw [List.map_cons] at h
    cases h with
    | cons r t =>
      obtain ⟨tk, rfl⟩ := r
      obtain ⟨ts, hl, rfl⟩ := vals_int t
      exact ⟨tk :: ts, by rw [List.length_cons, List.length_cons, hl], rfl⟩
theorem truth_ints {prog : Program} {w : World} {A : Around} {ns : List Int} {us : List Value} (h : Vals (ns.map V.int) us) :
    TruthOf prog w A (fun i v => us.toArray[i]? = some v) (fun i => ns.getD i 0 != 0) := by
  intro i v s Q E hv hq
  obtain ⟨ts, hl, rfl⟩ := vals_int h
  have hv : (List.zipWith Value.int ns ts)[i]? = some v := by simpa using hv
  rw [List.getElem?_zipWith] at hv
  cases hn : ns[i]? with
  | none => rw [hn] at hv; cases ht : ts[i]? <;> rw [ht] at hv <;> cases hv
  | some n =>
    cases ht : ts[i]? with
    | none => rw [hn, ht] at hv; cases hv
    | some t =>
      rw [hn, ht] at hv
      cases hv
      have e : ns.getD i 0 = n := by rw [List.getD_eq_getElem?_getD, hn]; rfl
      have hq : Q (ns.getD i 0 != 0) s := hq
      rw [e] at hq
      exact PySem.P.truthy_int hq
theorem any_ints : ∀ ns : List Int, (List.range ns.length).any (fun i => ns.getD i 0 != 0) = ns.any (· != 0)
  | [] => rfl
  | n :: ns => by
    rw [List.length_cons, List.range_succ_eq_map, List.any_cons, List.any_map, List.any_cons, ← any_ints ns]
    all_goals rfl
section
variable {X : Cx}
def rAnyI (K : PySem.W.Frag) : List V → Hp → VK → Prop := fun vs H Q => ∃ (a : Addr) (ns : List Int), vs = [V.ref a] ∧ (SqL K H a (ns.map V.int) ∨ SqT K H a (ns.map V.int)) ∧ Q (.bl (ns.any (· != 0))) H
theorem iter_tupA {prog : Program} {w : World} {A : Around} {E : Value → Shared → Prop} {s : Shared} {l : Addr} {items : Array Value} {Q : Value → Shared → Prop} (ht : s.heap.IsTuple l items)
    (h : ∀ s2 : Shared, s2 = { s with heap := s.heap.push { cls := .type "tuple_iterator", data := .fields #[.ref l, .int 0 0] } } → (s2.heap.IsTupleIter s.heap.objs.size l 0 ∧ s2.heap.IsTuple l items) → l ≠ s.heap.objs.size → Q (.ref s.heap.objs.size) s2) : wpAny (model prog w) A (pyIter (.ref l)) Q E s := by
  have lt : l < s.heap.objs.size := by
    obtain ⟨_, e, _⟩ := ht
    exact Heap.lt_size e
  exact wpAny_pyIter_tuple ht (h _ rfl ⟨⟨_, Heap.get?_push_size _ rfl, rfl, rfl⟩, ht.at fun o e => Heap.get?_push_of_some _ e⟩ (Nat.ne_of_lt lt))
theorem cr_anyI (hc : X.calm = true) : CallR X (.builtin "any") (rAnyI X.K) := by
  intro pins s σ H vs us Q I r h
  obtain ⟨a, ns, rfl, hs, q⟩ := h
  rw [Vals.ref1 r]
  have fin : ∀ {us : List Value} {h' : Heap} {tk : Nat} {o : Obj}, Vals (ns.map V.int) us → (∀ b ob, b ∉ [s.heap.objs.size] → (s.heap.push o).get? b = some ob → h'.get? b = some ob) →
      (∃ x H', Inv X pins σ H' { s with heap := h', toks := tk } ∧ RelV x (Value.bool ((List.range us.toArray.size).any fun i => ns.getD i 0 != 0)) ∧ Q x H') := fun {us h' tk o} rv hk => by
    refine ⟨.bl _, H, I.kept fun b ob eo => hk b ob (fun hm => ?_) (Heap.get?_push_of_some _ eo), ?_, q⟩
    · have hm := List.mem_singleton.mp hm
      subst hm
      exact absurd (Heap.lt_size eo) (Nat.lt_irrefl _)
    · have e : us.toArray.size = ns.length := by
        rw [List.size_toArray, ← rv.length, List.length_map]
      rw [e, any_ints]
      rfl
  rcases hs with hs | hs
  · obtain ⟨its, rv, hl, _⟩ := I.list hs
    refine call_any_walk (iter_any hl.isList fun s2 e2 st hne => ?_)
    subst e2
    exact ⟨_, _, _, _, _, _, _, rfl, Walks.list (A := X.A.in1) (I.ok.hd hc) _ a hne its.toArray, st, truth_ints rv, fun h' tk hk => fin rv hk⟩
  · obtain ⟨its, rv, hl, _⟩ := I.tuple hs
    refine call_any_walk (iter_tupA (show s.heap.IsTuple a its.toArray from hl) fun s2 e2 st hne => ?_)
    subst e2
    exact ⟨_, _, _, _, _, _, _, rfl, Walks.tuple (A := X.A.in1) (I.ok.hd hc) _ a hne its.toArray, st, truth_ints rv, fun h' tk hk => fin rv hk⟩
theorem rd_anyI {K : PySem.W.Frag} {vs : List V} {H : Hp} {Q : VK} : rAnyI K vs H Q = ∃ (a : Addr) (ns : List Int), vs = [V.ref a] ∧ (SqL K H a (ns.map V.int) ∨ SqT K H a (ns.map V.int)) ∧ Q (.bl (ns.any (· != 0))) H := rfl
end
/-! ### enumerate(t), t a tuple -/
theorem meets_enum1 {v : Value} {o : Obj} {Hh : Heap → Prop} (Bg : Begins v o Hh) : Meets (Builtin.«enumerate.__new__» ⟨[.type "enumerate", v], []⟩)
    (fun _ R s => Hh s.heap ∧ R (.ok (.ret (.ref (s.heap.push o).objs.size))) { s with heap := (s.heap.push o).push { cls := .type "enumerate", data := .fields #[.none, .bool false, .ref s.heap.objs.size, rawInt 0, .none, .none] } }) :=
  .of_wp fun prog w A R s h => by
    obtain ⟨hp, g, d, tk, os⟩ := s
    obtain ⟨hv, h⟩ := h
    have sube := sub_enumerate
    have go : ∀ {A1 : Around} {E1 : Value → Shared → Prop} {Q1 : Value → Shared → Prop}, Q1 (.ref hp.objs.size) ⟨hp.push o, g, d, tk, os⟩ → wpAny (model prog w) A1 (pyIter v) Q1 E1 ⟨hp, g, d, tk, os⟩ := fun q => Bg.iter prog w _ _ ⟨hp, g, d, tk, os⟩ _ hv q
    wp_walk using go
    refine wpAny_stack_any fun st => wpAny_pure ?_
    split
    · rename_i cl _ _ _ _ _
      cases (cl == Value.type "enumerate") <;> (wp_walk using go; exact ⟨_, rfl, h⟩)
    · wp_walk using go
      exact ⟨_, rfl, h⟩
section
variable {prog : Program} {w : World} {A : Around} {E : Value → Shared → Prop} {s : Shared}
theorem enum1_at {v : Value} {o : Obj} {Hh : Heap → Prop} {Q : Value → Shared → Prop} (Bg : Begins v o Hh) (hv : Hh s.heap)
    (h : ∀ h1, IsEnum h1 (s.heap.objs.size + 1) s.heap.objs.size 0 .none → h1.get? s.heap.objs.size = some o → (∀ b ob, s.heap.get? b = some ob → h1.get? b = some ob) → Q (.ref (s.heap.objs.size + 1)) { s with heap := h1 }) :
    wpAny (model prog w) A (call (.type "enumerate") [v]) Q E s := by
  have sz : (s.heap.push o).objs.size = s.heap.objs.size + 1 := Heap.size_push ..
  have en : IsEnum ((s.heap.push o).push { cls := .type "enumerate", data := .fields #[.none, .bool false, .ref s.heap.objs.size, rawInt 0, .none, .none] }) (s.heap.objs.size + 1) s.heap.objs.size 0 .none := by
    have z := Heap.get?_push_size (s.heap.push o) (o := { cls := .type "enumerate", data := .fields #[.none, .bool false, .ref s.heap.objs.size, rawInt 0, .none, .none] }) rfl
    rw [sz] at z
    exact z
  refine callType_new F.called_enumerate (by decide) (F.typeCall_enumerate_1 _) (F.newCall_enumerate_1 _) (fun ob => F.args_object_init_2 ob _) F.entry_enumerate_new (meets_enum1 Bg) ⟨hv, ?_⟩
  show _ ∧ _
  rw [sz]
  exact ⟨⟨_, en, rfl⟩, h _ en (Heap.get?_push_of_some _ (Heap.get?_push_size _ Bg.free)) fun b ob x => Heap.get?_push_of_some _ (Heap.get?_push_of_some _ x)⟩
end
def IteT (K : PySem.W.Frag) (a : Addr) : It :=
  ⟨fun i H => ∃ (xs : List V) (x : V), SqT K H a xs ∧ xs[i]? = some x, fun i H v H1 => ∃ T x, v = .ref T ∧ H T = none ∧ H1 = upd H T (.tup [.int (i : Nat), x]) ∧ ∀ xs, SqT K H a xs → xs[i]? = some x, fun i H => ∃ xs : List V, SqT K H a xs ∧ xs.length = i⟩
theorem turn_enumT {P : Program} {w : World} {K : PySem.W.Frag} {elts : List Expr} {kk : Nat} {tpos : Pos} (a e it : Addr) :
    Turn P w K (.Tuple elts kk tpos) (IteT K a) [e, it] e (fun i h => (∃ old, IsEnum h e it ((i : Nat) : Int) old) ∧ h.IsTupleIter it a i ∧ e ≠ it ∧ e ≠ a ∧ a ≠ it) where
  mem := List.mem_cons_self
  obj := fun i h st b hb => by
    obtain ⟨⟨old, en⟩, ⟨o, ho, _, hd⟩, _⟩ := st
    rcases (by simpa using hb : b = e ∨ b = it) with rfl | rfl
    · exact ⟨_, en, fun v q => nomatch q⟩
    · refine ⟨o, ho, fun v q => ?_⟩
      rw [hd] at q
      cases q
  keep := fun i h h1 st k => by
    obtain ⟨⟨old, en⟩, hi, ne⟩ := st
    exact ⟨⟨old, k e List.mem_cons_self _ en⟩, hi.at fun o q => k it (List.mem_cons_of_mem _ List.mem_cons_self) o q, ne⟩
  item := by
    intro X hP hw hK hc i pins s σ H E I hf st hg
    subst hP hw hK
    obtain ⟨⟨old, en⟩, hit, ne, nea, nai⟩ := st
    obtain ⟨xs, x, hq, hx⟩ := hg
    obtain ⟨its, rv, tp, _⟩ := I.tuple hq
    obtain ⟨u, hu, ru⟩ := rv.get hx
    have lte : e < s.heap.objs.size := Heap.lt_size en
    have lti : it < s.heap.objs.size := by
      obtain ⟨_, q, _⟩ := hit
      exact Heap.lt_size q
    have ilt : i < its.toArray.size := by
      rw [List.size_toArray]
      exact (List.getElem?_eq_some_iff.mp hu).1
    refine wpAny_pyNext_enum_itemD (Draws.tuple (A := X.A.in1) (I.ok.hd hc) it a nai its.toArray) en ⟨hit, show s.heap.IsTuple a its.toArray from tp⟩ ilt ne (by simp [ne, nea]) fun x1 h1 tk hx1 ho st1 hT sz hk => ?_
    have ex1 : x1 = u := by
      have z : its[i]? = some x1 := by simpa using hx1
      rw [hu] at z
      cases z
      rfl
    subst ex1
    refine ⟨_, rfl, wpAny_letOwnedTupleGo_enum (s := { s with heap := h1, toks := tk + 1 }) ho fun h2 en2 sb => ?_⟩
    have hT2 : h2.get? s.heap.objs.size = some { cls := .type "tuple", data := .seq #[.int i tk, x1] } := (sb.2 _ (Nat.ne_of_gt lte)).trans hT
    have fresh : ObjOk X.prog X.w (upd H s.heap.objs.size (.tup [.int (i : Nat), x])) h2 s.heap.objs.size (.tup [.int (i : Nat), x]) :=
      ⟨by show 2 ≤ sizeLine; decide, [.int i tk, x1], .cons ⟨_, rfl⟩ (.cons ru .nil), ⟨_, hT2, rfl, _, rfl⟩⟩
    have I2 : Inv X pins σ (upd H s.heap.objs.size (.tup [.int (i : Nat), x])) { s with heap := h2, toks := tk + 1 } :=
      I.turnedNew (ch := [e, it]) (fun b ob hb q => (sb.2 b (fun z => hb (by simp [z]))).trans (hk b ob (fun z => hb (by simp [z])) (fun z => hb (by simp [z])) q)) hf (Nat.le_refl _) fresh
    refine ⟨.ref s.heap.objs.size, _, I2, rfl, ⟨_, x, rfl, I.hok.fresh (Nat.le_refl _), rfl, fun ys hy => by rw [I.tuple_inj hy hq]; exact hx⟩, ⟨⟨x1, ?_⟩, st1.1.at fun o q => (sb.2 it (Ne.symm ne)).trans q, ne, nea, nai⟩, fun b hb => ?_⟩
    · rw [show ((i + 1 : Nat) : Int) = (i : Int) + 1 by omega]
      exact en2
    · have lt : b < s.heap.objs.size := by
        rcases (by simpa using hb : b = e ∨ b = it) with rfl | rfl
        · exact lte
        · exact lti
      rw [upd_ne (Nat.ne_of_lt lt)]
      exact (hf b hb).1
  done := by
    intro X hP hw hK hc i pins s σ H E I hf st hg
    subst hP hw hK
    obtain ⟨⟨old, en⟩, hit, ne, nea, nai⟩ := st
    obtain ⟨xs, hq, hx⟩ := hg
    obtain ⟨its, rv, tp, _⟩ := I.tuple hq
    obtain ⟨g0, g1, g2, g3, g4, g5⟩ := hf it (List.mem_cons_of_mem _ List.mem_cons_self)
    have sz : its.toArray.size = i := by
      have := rv.length
      rw [List.size_toArray]
      omega
    subst sz
    exact wpAny_pyNext_enum_endD (Draws.tuple (A := X.A.in1) (I.ok.hd hc) it a nai its.toArray) en ⟨hit, show s.heap.IsTuple a its.toArray from tp⟩ fun h1 eb => ⟨rfl, I.turned (t' := s.toks) (fun b o hb q => eb b o hb q) g0 g1 g3 g4 g5⟩
  self := fun A i s Q E st h => let ⟨⟨_, en⟩, _⟩ := st; wpAny_pyIter_enum en h
def iEnumT (K : PySem.W.Frag) (ta : TA) : TI := fun σ H R => ta σ H fun vs H1 => ∃ a xs, vs = [.ref a] ∧ SqT K H1 a xs ∧ R (IteT K a) H1
theorem pi_enumT {X : Cx} {e : Expr} {ta : TA} {p pos tpos : Pos} {elts : List Expr} {kk : Nat} (hg : Gl X "enumerate") (hm : X.mg "enumerate" = none) (ha : PA X [e] ta) (hs : starEach [e] X.env = [(false, eval e X.env)] := by rfl) :
    PI X (.Tuple elts kk tpos) (.Call (.Name "enumerate" p) [e] [] pos) (iEnumT X.K ta) := by
  refine ⟨fun pins s σ H R I h => ?_⟩
  refine Call_ (ld_blt I hg hm boot_enumerate (PyProof.Rows.callWith_type1 (thn (ha.run pos pins s σ H _ I h) fun us s1 ⟨vs, H1, I1, r1, a, xs, ex, hq, q⟩ => ?_) hs rfl))
  subst ex
  rw [Vals.ref1 r1]
  obtain ⟨its, rv, tp, _⟩ := I1.tuple hq
  have tp' : s1.heap.IsTuple a its.toArray := tp
  have lta : a < s1.heap.objs.size := by
    obtain ⟨_, z, _⟩ := tp'
    exact Heap.lt_size z
  refine enum1_at (begins_tuple a its.toArray) tp' fun h1 en hi hk => wpAny_pyIter_enum en ?_
  have I2 : Inv X pins σ H1 { s1 with heap := h1 } := I1.kept (t' := s1.toks) hk
  refine ⟨s1.heap.objs.size + 1, [s1.heap.objs.size + 1, s1.heap.objs.size], _, _, H1, rfl, I2, turn_enumT a (s1.heap.objs.size + 1) s1.heap.objs.size, ⟨⟨.none, en⟩, ⟨_, hi, rfl, rfl⟩, Nat.succ_ne_self _, Nat.ne_of_gt (Nat.lt_succ_of_lt lta), Nat.ne_of_lt lta⟩, fun b hb => ?_, q⟩
  have le : s1.heap.objs.size ≤ b := by
    rcases (by simpa using hb : b = s1.heap.objs.size + 1 ∨ b = s1.heap.objs.size) with rfl | rfl
    · exact Nat.le_succ _
    · exact Nat.le_refl _
  exact I1.fpOk le (I1.hok.fresh le)
/-- a loop over an enumerated tuple, by a word -/
def ForE (K : PySem.W.Frag) (a : Addr) := ForJ (IteT K a)
section
variable {K : PySem.W.Frag} {a : Addr} {xs : List V} {g : TG} {tb : TS} {D : Ends} {σ : L2.St} {H : Hp} {ta : TA} {tt : TT} {te : TE} {vs : List Nat} {Q : VK}
theorem rd_forE : tFor (iEnumT K ta) g tb D σ H = ta σ H fun us H1 => ∃ a xs, us = [.ref a] ∧ SqT K H1 a xs ∧ ForE K a g tb D σ H1 := rfl
theorem ForE.w (Pw : Nat → L2.St → Hp → Prop) (h0 : Pw 0 σ H) (hl : ∀ i σ H, i ≤ xs.length → Pw i σ H → SqT K H a xs)
    (hs : ∀ (i : Nat) (x : V) (T : Addr) σ H, xs[i]? = some x → Pw i σ H → H T = none → ∀ N : L2.St → Hp → Prop, (∀ σ' H', Pw (i + 1) σ' H' → N σ' H') → g (.ref T) σ (upd H T (.tup [.int (i : Nat), x])) fun σ2 H2 => tb { D with nx := N, ct := N, bk := D.nx } σ2 H2)
    (hd : ∀ σ H, Pw xs.length σ H → D.nx σ H) : ForE K a g tb D σ H := by
  refine ⟨fun i m σ H => m = xs.length - i ∧ i ≤ xs.length ∧ Pw i σ H, ⟨_, rfl, Nat.zero_le _, h0⟩, ?_⟩
  rintro i m σ H ⟨rfl, hi, p⟩
  have hq := hl i σ H hi p
  rcases Nat.lt_or_ge i xs.length with c | c
  · have hx : xs[i]? = some xs[i] := List.getElem?_eq_getElem c
    refine .inr ⟨⟨xs, _, hq, hx⟩, Pw (i + 1), fun σ' H' p' => ⟨xs.length - (i + 1), by omega, rfl, c, p'⟩, fun v H' y => ?_⟩
    obtain ⟨T, x, rfl, hT, rfl, f⟩ := y
    exact hs i x T σ H (f xs hq) p hT _ fun _ _ h => h
  · have e : i = xs.length := by omega
    subst e
    exact .inl ⟨⟨xs, hq, rfl⟩, hd σ H p⟩
/-- a comprehension over an enumerated tuple -/
def LcE (K : PySem.W.Frag) (a : Addr) := LcJ (IteT K a)
theorem rd_lcE : tLc (iEnumT K ta) g tt te vs σ H Q = ta σ H fun us H1 => ∃ a xs, us = [.ref a] ∧ SqT K H1 a xs ∧ LcE K a g tt te vs σ H1 Q := rfl
theorem LcE.w (Pw : Nat → Addr → List V → Hp → Prop) (h0 : ∀ D, H D = none → Pw 0 D [] (upd H D (.lst []))) (hl : ∀ D i ys H, i ≤ xs.length → Pw i D ys H → SqT K H a xs)
    (hs : ∀ D (i : Nat) x (T : Addr) ys H, xs[i]? = some x → Pw i D ys H → H T = none → ∀ N : Hp → Prop, (∀ ys' H', Pw (i + 1) D ys' H' → N H') → g (.ref T) (wipe σ vs) (upd H T (.tup [.int (i : Nat), x])) fun σ2 H2 => wipe σ2 vs = wipe σ vs ∧ tt σ2 H2 fun b H3 =>
      if b = true then te σ2 H3 fun y H4 => ∃ acc, H4 D = some (.lst acc) ∧ acc.length < sizeLine ∧ N (upd H4 D (.lst (acc ++ [y]))) else N H3) (hd : ∀ D ys H', H D = none → Pw xs.length D ys H' → Q (.ref D) H') : LcE K a g tt te vs σ H Q := by
  intro D hD
  refine ⟨fun i m H => m = xs.length - i ∧ i ≤ xs.length ∧ ∃ ys, Pw i D ys H, ⟨_, rfl, Nat.zero_le _, _, h0 D hD⟩, ?_⟩
  rintro i m H ⟨rfl, hi, ys, p⟩
  have hq := hl D i ys H hi p
  rcases Nat.lt_or_ge i xs.length with c | c
  · have hx : xs[i]? = some xs[i] := List.getElem?_eq_getElem c
    refine .inr ⟨⟨xs, _, hq, hx⟩, fun H' => ∃ ys, Pw (i + 1) D ys H', fun H' p' => ⟨xs.length - (i + 1), by omega, rfl, c, p'⟩, fun v H' y => ?_⟩
    obtain ⟨T, x, rfl, hT, rfl, f⟩ := y
    exact hs D i x T ys H (f xs hq) p hT _ fun ys' H' h => ⟨ys', h⟩
  · have e : i = xs.length := by omega
    subst e
    exact .inl ⟨⟨xs, hq, rfl⟩, hd D ys H hD p⟩
end
end CB
/-! the least of data alike, a list or a tuple; the place of a datum in a list -/
namespace CB
open PySem PySem.Spec PyProof.Rows L2
section
variable {X : Cx}
theorem un65 {k : Nat} {A : Around} (r : Room k A) : A.units + 65 < cLine := by
  have := r.un
  omega
theorem minD_in (x : PyData) : ∀ xs : List PyData, PySem.W.minD x xs ∈ x :: xs := by
  intro xs
  unfold PySem.W.minD
  induction xs generalizing x with
  | nil => exact List.mem_cons_self
  | cons y r ih =>
    rw [List.foldl_cons]
    have h := ih (if PySem.W.dataLt y x then y else x)
    rcases List.mem_cons.mp h with h | h
    · rw [h]
      split
      · exact List.mem_cons_of_mem _ List.mem_cons_self
      · exact List.mem_cons_self
    · exact List.mem_cons_of_mem _ (List.mem_cons_of_mem _ h)
theorem lay_of {x : PyData} : ∀ {xs : List PyData}, PyData.canLayAll0 xs = true → x ∈ xs → PyData.canLay0 x = true
  | [], _, h => by simp at h
  | y :: r, l, h => by
    have l' : (PyData.canLay0 y && PyData.canLayAll0 r) = true := l
    rw [Bool.and_eq_true] at l'
    rcases List.mem_cons.mp h with h | h
    · rw [h]; exact l'.1
    · exact lay_of l'.2 h
theorem read_one {h : Heap} {v : Value} {d d' : PyData} {as bs : List Addr} (r : Reads h v d as) (r' : Reads h v d' bs) (l : PyData.canLay0 d = true) (l' : PyData.canLay0 d' = true) : d = d' := by
  have e1 := SeqAt.readsAll_map [d] [v] _ (by show (PyData.canLay0 d && true) = true; rw [l]; rfl) (.cons r .nil)
  have e2 := SeqAt.readsAll_map [d'] [v] _ (by show (PyData.canLay0 d' && true) = true; rw [l']; rfl) (.cons r' .nil)
  rw [e1] at e2
  exact (List.cons.inj e2).1
/-- min(xs), xs a list or a tuple of data alike -/
def rMinD (K : PySem.W.Frag) : List V → Hp → VK → Prop := fun vs H Q => ∃ (a : Addr) (ys : List V) (x : PyData) (xs : List PyData), vs = [V.ref a] ∧ (SqL K H a ys ∨ SqT K H a ys) ∧ DpAll K H ys (x :: xs) ∧ PyData.canLayAll0 (x :: xs) = true ∧ PySem.W.AlikeAll (x :: xs) ∧ PyData.depthAll (x :: xs) ≤ 60 ∧
  ∀ (i : Nat) v, ys[i]? = some v → (x :: xs)[i]? = some (PySem.W.minD x xs) → Q v H
theorem cr_minD (hc : X.calm = true) (hu : X.A.units + 65 < cLine) : CallR X (.builtin "min") (rMinD X.K) := by
  intro pins s σ H vs us Q I r h
  obtain ⟨a, ys, x, xs, rfl, hs, hd, lay, al, dp, q⟩ := h
  rw [Vals.ref1 r]
  have fin : ∀ {its : List Value} {as : List Addr} {i : Nat} {v : Value} {h' : Heap} {tk : Nat} {bs : List Addr}, Vals ys its → ReadsAll s.heap its (x :: xs) as → its.toArray[i]? = some v → Reads h' v (PySem.W.minD x xs) bs → (∀ b o, s.heap.get? b = some o → h'.get? b = some o) →
      (∃ y H', Inv X pins σ H' { s with heap := h', toks := tk } ∧ RelV y v ∧ Q y H') := fun {its as i v h' tk bs} rv ra hv rd hk => by
    have hv' : its[i]? = some v := by simpa using hv
    obtain ⟨b2, r2, hi, _, _⟩ := PySem.W.readsAll_at ra i v hv'
    have hx : (x :: xs)[i]? = some ((x :: xs).getD i .none) := by
      rw [List.getD_eq_getElem?_getD, List.getElem?_eq_getElem hi]
      rfl
    have mem := List.mem_of_getElem? hx
    have e := read_one (Reads.keeps hk r2) rd (lay_of lay mem) (lay_of lay (minD_in x xs))
    have hl := rv.length
    have hil : i < its.length := by
      obtain ⟨z, _⟩ := List.getElem?_eq_some_iff.mp hv'
      exact z
    have hy : ys[i]? = some ys[i] := List.getElem?_eq_getElem (by omega)
    obtain ⟨u, hu, ru⟩ := rv.get hy
    rw [hu] at hv'
    cases hv'
    exact ⟨ys[i], H, I.kept hk, ru, q i _ hy (by rw [hx, e])⟩
  have ar : X.A.units + 1 + PyData.depthAll (x :: xs) < cLine := by omega
  rcases hs with hs | hs
  · obtain ⟨its, rv, hl, _⟩ := I.list hs
    obtain ⟨as, ra⟩ := Dp.readsAll I _ _ its hd rv
    exact PySem.W.min_list_data (I.ok.hd hc) hl.isList (by simpa using ra) al ar fun i v h' tk bs hv rd hk => fin rv ra hv rd hk
  · obtain ⟨its, rv, hl, _⟩ := I.tuple hs
    obtain ⟨as, ra⟩ := Dp.readsAll I _ _ its hd rv
    exact PySem.W.min_tuple_data (I.ok.hd hc) (show s.heap.IsTuple a its.toArray from hl) (by simpa using ra) al ar fun i v h' tk bs hv rd hk => fin rv ra hv rd hk
theorem rd_minD {K : PySem.W.Frag} {vs : List V} {H : Hp} {Q : VK} : rMinD K vs H Q = ∃ (a : Addr) (ys : List V) (x : PyData) (xs : List PyData), vs = [V.ref a] ∧ (SqL K H a ys ∨ SqT K H a ys) ∧ DpAll K H ys (x :: xs) ∧ PyData.canLayAll0 (x :: xs) = true ∧ PySem.W.AlikeAll (x :: xs) ∧ PyData.depthAll (x :: xs) ≤ 60 ∧
  ∀ (i : Nat) v, ys[i]? = some v → (x :: xs)[i]? = some (PySem.W.minD x xs) → Q v H := rfl
theorem rd_indexD {K : PySem.W.Frag} {x : V} {xs : List V} {H : Hp} {Q : VK} : rIndexD K x xs H Q = ∃ (a : Addr) (y : V) (d : PyData) (ds : List PyData) (j : Nat) (z : PyData), x = V.ref a ∧ xs = [y] ∧ Dp K H (V.ref a) (.list ds) ∧ Dp K H y d ∧
  SeqAt.shaped (.list ds) = true ∧ SeqAt.shaped d = true ∧ ds[j]? = some z ∧ PyData.eqv z d = true ∧ (∀ (m : Nat) (z' : PyData), m < j → ds[m]? = some z' → PyData.eqv z' d = false) ∧ Q (.int (j : Nat)) H := rfl
end
end CB
/-! divmod; comprehensions by what holds beside the list that is made -/
namespace CB
open PySem PySem.Spec PyProof.Rows L2
/-! ### divmod of any size -/
def rDm : List V → Hp → VK → Prop := fun xs H Q => ∃ i j : Int, xs = [.int i, .int j] ∧ CDivP i j ∧ ∀ p, H p = none → Q (.ref p) (upd H p (.tup [.int (i / j), .int (i % j)]))
theorem cr_dm {X : Cx} : CallR X (.builtin "divmod") rDm := call_divmodW
theorem rd_dm {xs : List V} {H : Hp} {Q : VK} : rDm xs H Q = ∃ i j : Int, xs = [.int i, .int j] ∧ CDivP i j ∧ ∀ p, H p = none → Q (.ref p) (upd H p (.tup [.int (i / j), .int (i % j)])) := rfl
/-! ### a comprehension: what holds beside the list that is made -/
section
variable {K : PySem.W.Frag} {a : Addr} {xs : List V} {g : TG} {tt : TT} {te : TE} {vs : List Nat} {σ : L2.St} {H : Hp} {Q : VK} {lo : Int} {n : Nat}
/-- lists made since H stand as they were -/
def Kn (H H1 H2 : Hp) : Prop := ∀ D l, H D = none → H1 D = some (.lst l) → H2 D = some (.lst l)
theorem Kn.same {H H1 H2 : Hp} (s : Same H1 H2) : Kn H H1 H2 := fun D l _ e => s _ _ e
theorem Kn.refl {H H1 : Hp} : Kn H H1 H1 := fun _ _ _ e => e
theorem Kn.trans {H H1 H2 H3 : Hp} (a : Kn H H1 H2) (b : Kn H H2 H3) : Kn H H1 H3 := fun D l n e => b D l n (a D l n e)
/-- what does not speak of lists made since H -/
def Ind (H : Hp) (I : Hp → Prop) : Prop := ∀ H1 D l l', I H1 → H D = none → H1 D = some (.lst l) → I (upd H1 D (.lst l'))
theorem same_updD {H H1 : Hp} {D : Addr} {o : HO} (s : Same H H1) (n : H D = none) : Same H (upd H1 D o) := fun b x e => by
  rw [upd_ne (ne_of_none e n)]
  exact s _ _ e
theorem Ind.same {H : Hp} : Ind H (Same H) := fun H1 D l l' s n _ => same_updD s n
abbrev Turn1 (H : Hp) (g : TG) (tt : TT) (te : TE) (vs : List Nat) (σ : L2.St) (I : Nat → List V → Hp → Prop) (i : Nat) (x : V) : Prop :=
  ∀ zs H1, I i zs H1 → ∀ (M : VK) (S : Hp → Prop), (∀ v H2, Kn H H1 H2 → I (i + 1) (zs ++ [v]) H2 → M v H2) → (∀ H2, Kn H H1 H2 → I (i + 1) zs H2 → S H2) →
    g x (wipe σ vs) H1 fun σ2 H2 => wipe σ2 vs = wipe σ vs ∧ tt σ2 H2 fun b H3 => if b = true then te σ2 H3 M else S H3
theorem turn1 {I : Nat → List V → Hp → Prop} {i : Nat} {x : V} (hi : ∀ i zs, Ind H (I i zs)) (hz : ∀ i zs H1, I i zs H1 → zs.length < sizeLine) (t : Turn1 H g tt te vs σ I i x) {D : Addr} (nD : H D = none) {zs : List V} {H1 : Hp}
    (p : I i zs H1 ∧ H1 D = some (.lst zs)) {N : Hp → Prop} (hN : ∀ ys' H', I (i + 1) ys' H' ∧ H' D = some (.lst ys') → N H') : g x (wipe σ vs) H1 fun σ2 H2 => wipe σ2 vs = wipe σ vs ∧ tt σ2 H2 fun b H3 =>
      if b = true then te σ2 H3 fun y H4 => ∃ acc, H4 D = some (.lst acc) ∧ acc.length < sizeLine ∧ N (upd H4 D (.lst (acc ++ [y]))) else N H3 :=
  t zs H1 p.1 (fun y H4 => ∃ acc, H4 D = some (.lst acc) ∧ acc.length < sizeLine ∧ N (upd H4 D (.lst (acc ++ [y])))) N
    (fun v H2 k q => ⟨zs, k D zs nD p.2, hz _ _ _ p.1, hN (zs ++ [v]) _ ⟨hi _ _ H2 D zs _ q nD (k D zs nD p.2), upd_same⟩⟩) (fun H2 k q => hN zs _ ⟨q, k D zs nD p.2⟩)
theorem LcT.i (I : Nat → List V → Hp → Prop) (hi : ∀ i zs, Ind H (I i zs)) (h0 : ∀ H1, Same H H1 → I 0 [] H1) (hl : ∀ i zs H1, I i zs H1 → SqT K H1 a xs) (hz : ∀ i zs H1, I i zs H1 → zs.length < sizeLine)
    (hs : ∀ i x, xs[i]? = some x → Turn1 H g tt te vs σ I i x) (hd : ∀ D zs H', H D = none → I xs.length zs H' → H' D = some (.lst zs) → Q (.ref D) H') : LcT K a g tt te vs σ H Q :=
  LcT.w (xs := xs) (fun i D zs H1 => (I i zs H1 ∧ H1 D = some (.lst zs)) ∧ H D = none) (fun D nD => ⟨⟨h0 _ (same_upd nD), upd_same⟩, nD⟩) (fun D i zs H1 _ p => hl i zs H1 p.1.1)
    (fun D i x zs H1 hx p N hN => turn1 hi hz (hs i x hx) p.2 p.1 fun ys' H' q => hN ys' H' ⟨q, p.2⟩) (fun D zs H' _ p => hd D zs H' p.2 p.1.1 p.1.2)
theorem LcL.i (I : Nat → List V → Hp → Prop) (hi : ∀ i zs, Ind H (I i zs)) (h0 : ∀ H1, Same H H1 → I 0 [] H1) (hl : ∀ i zs H1, I i zs H1 → SqL K H1 a xs) (hz : ∀ i zs H1, I i zs H1 → zs.length < sizeLine)
    (hs : ∀ i x, xs[i]? = some x → Turn1 H g tt te vs σ I i x) (hd : ∀ D zs H', H D = none → I xs.length zs H' → H' D = some (.lst zs) → Q (.ref D) H') : LcL K a g tt te vs σ H Q :=
  LcL.w (xs := xs) (fun i D zs H1 => (I i zs H1 ∧ H1 D = some (.lst zs)) ∧ H D = none) (fun D nD => ⟨⟨h0 _ (same_upd nD), upd_same⟩, nD⟩) (fun D i zs H1 _ p => hl i zs H1 p.1.1)
    (fun D i x zs H1 hx p N hN => turn1 hi hz (hs i x hx) p.2 p.1 fun ys' H' q => hN ys' H' ⟨q, p.2⟩) (fun D zs H' _ p => hd D zs H' p.2 p.1.1 p.1.2)
theorem LcR.i (I : Nat → List V → Hp → Prop) (hi : ∀ i zs, Ind H (I i zs)) (h0 : ∀ H1, Same H H1 → I 0 [] H1) (hz : ∀ i zs H1, I i zs H1 → zs.length < sizeLine)
    (hs : ∀ i, i < n → Turn1 H g tt te vs σ I i (.int (lo + i))) (hd : ∀ D zs H', H D = none → I n zs H' → H' D = some (.lst zs) → Q (.ref D) H') : LcR lo n g tt te vs σ H Q :=
  LcR.w (fun i D zs H1 => (I i zs H1 ∧ H1 D = some (.lst zs)) ∧ H D = none) (fun D nD => ⟨⟨h0 _ (same_upd nD), upd_same⟩, nD⟩)
    (fun D i zs H1 hx p N hN => turn1 hi hz (hs i hx) p.2 p.1 fun ys' H' q => hN ys' H' ⟨q, p.2⟩) (fun D zs H' _ p => hd D zs H' p.2 p.1.1 p.1.2)
/-- the items are told: y i is what the turn i adds, if it adds any -/
def pureI (H : Hp) (m : Nat) (y : Nat → Option V) (i : Nat) (zs : List V) (H1 : Hp) : Prop := Same H H1 ∧ zs = (List.range i).filterMap y ∧ i ≤ m
abbrev Turn2 (H : Hp) (g : TG) (tt : TT) (te : TE) (vs : List Nat) (σ : L2.St) (y : Option V) (x : V) : Prop :=
  ∀ H1, Same H H1 → ∀ (M : VK) (S : Hp → Prop), (∀ v H2, y = some v → Same H1 H2 → M v H2) → (∀ H2, y = none → Same H1 H2 → S H2) →
    g x (wipe σ vs) H1 fun σ2 H2 => wipe σ2 vs = wipe σ vs ∧ tt σ2 H2 fun b H3 => if b = true then te σ2 H3 M else S H3
theorem turn2 {m : Nat} {y : Nat → Option V} {i : Nat} {x : V} (hm : i < m) (t : Turn2 H g tt te vs σ (y i) x) : Turn1 H g tt te vs σ (pureI H m y) i x := by
  rintro zs H1 ⟨s1, rfl, _⟩ M S hM hS
  refine t H1 s1 M S (fun v H2 e s2 => hM v H2 (.same s2) ⟨s1.trans s2, ?_, hm⟩) (fun H2 e s2 => hS H2 (.same s2) ⟨s1.trans s2, ?_, hm⟩)
  · rw [List.range_succ, List.filterMap_append, List.filterMap_cons, e]
    rfl
  · rw [List.range_succ, List.filterMap_append, List.filterMap_cons, e, List.filterMap_nil, List.append_nil]
theorem pureI.ind {m : Nat} {y : Nat → Option V} (i : Nat) (zs : List V) : Ind H (pureI H m y i zs) := fun H1 D l l' p n _ => ⟨same_updD p.1 n, p.2⟩
theorem pureI.z {m : Nat} {y : Nat → Option V} (hm : m ≤ 10000000) (i : Nat) (zs : List V) (H1 : Hp) (p : pureI H m y i zs H1) : zs.length < sizeLine := by
  obtain ⟨_, rfl, hi⟩ := p
  have := List.length_filterMap_le y (List.range i)
  rw [List.length_range] at this
  rw [PySem.sizeLine_eq]
  omega
theorem LcT.p (y : Nat → Option V) (hm : xs.length ≤ 10000000) (hx : ∀ H1, Same H H1 → SqT K H1 a xs) (hs : ∀ i x, xs[i]? = some x → Turn2 H g tt te vs σ (y i) x)
    (hd : ∀ D H', H D = none → Same H H' → H' D = some (.lst ((List.range xs.length).filterMap y)) → Q (.ref D) H') : LcT K a g tt te vs σ H Q :=
  LcT.i (pureI H xs.length y) pureI.ind (fun H1 s => ⟨s, rfl, Nat.zero_le _⟩) (fun i zs H1 p => hx H1 p.1) (pureI.z hm) (fun i x h => turn2 (List.getElem?_eq_some_iff.mp h).1 (hs i x h)) (fun D zs H' nD p e => hd D H' nD p.1 (by rw [← p.2.1]; exact e))
theorem LcL.p (y : Nat → Option V) (hm : xs.length ≤ 10000000) (hx : ∀ H1, Same H H1 → SqL K H1 a xs) (hs : ∀ i x, xs[i]? = some x → Turn2 H g tt te vs σ (y i) x)
    (hd : ∀ D H', H D = none → Same H H' → H' D = some (.lst ((List.range xs.length).filterMap y)) → Q (.ref D) H') : LcL K a g tt te vs σ H Q :=
  LcL.i (pureI H xs.length y) pureI.ind (fun H1 s => ⟨s, rfl, Nat.zero_le _⟩) (fun i zs H1 p => hx H1 p.1) (pureI.z hm) (fun i x h => turn2 (List.getElem?_eq_some_iff.mp h).1 (hs i x h)) (fun D zs H' nD p e => hd D H' nD p.1 (by rw [← p.2.1]; exact e))
theorem LcR.p (y : Nat → Option V) (hm : n ≤ 10000000) (hs : ∀ i, i < n → Turn2 H g tt te vs σ (y i) (.int (lo + i)))
    (hd : ∀ D H', H D = none → Same H H' → H' D = some (.lst ((List.range n).filterMap y)) → Q (.ref D) H') : LcR lo n g tt te vs σ H Q :=
  LcR.i (pureI H n y) pureI.ind (fun H1 s => ⟨s, rfl, Nat.zero_le _⟩) (pureI.z hm) (fun i h => turn2 h (hs i h)) (fun D zs H' nD p e => hd D H' nD p.1 (by rw [← p.2.1]; exact e))
end
theorem small_size {n : Nat} (h : n ≤ 10000000) : n < sizeLine := by rw [PySem.sizeLine_eq]; omega
theorem iabs (i : Int) : (if i < 0 then -i else i) = (i.natAbs : Int) := by
  split <;> omega
theorem fm_self {α : Type} : ∀ l : List α, (List.range l.length).filterMap (fun i => l[i]?) = l
  | [] => rfl
  | a :: l => by
    rw [List.length_cons, List.range_succ_eq_map, List.filterMap_cons, List.filterMap_map]
    show a :: _ = _
    congr 1
    exact fm_self l
theorem fm_get {α β : Type} (l : List α) (g : α → Option β) : (List.range l.length).filterMap (fun i => l[i]?.bind g) = l.filterMap g := by
  rw [← List.filterMap_filterMap, fm_self]
theorem fm_ite {α β : Type} (l : List α) (p : α → Bool) (f : α → β) : l.filterMap (fun a => if p a = true then some (f a) else none) = (l.filter p).map f := by
  induction l with
  | nil => rfl
  | cons a l ih =>
    rw [List.filterMap_cons, List.filter_cons]
    by_cases h : p a = true
    · rw [if_pos h, if_pos h, List.map_cons, ← ih]
    · rw [if_neg h, if_neg h, ← ih]
theorem lg_int {n : Int} (h : n.natAbs ≤ 1000000000000000000000000) : n.natAbs.log2 < 9000 := by
  have := log_lt (n := n.natAbs) (k := 80) (Nat.lt_of_le_of_lt h (by decide))
  omega
/-- a def that is never called so -/
def spNev : Sp := fun _ _ _ _ => False
theorem Dn.never {P : Program} {w : World} {K : PySem.W.Frag} {mg : Str → Option Value} {base : Heap} {x : Str} {st : Stmt} {N ps : List Str} (D : Dn K mg x st ps) (S : FnScope N ps (defScope st)) : Cal P w K mg base x 1 ps spNev :=
  D.cal S (fun _ _ _ _ h => h.elim) (fun _ _ _ _ _ _ _ _ _ _ h => h.elim)
theorem ixNk {n j : Nat} (hj : j < n) : ixN n (j : Int) = some j := by
  have h1 : (0 : Int) ≤ (j : Int) := by omega
  have h2 : (j : Int) < (n : Int) := by omega
  unfold ixN
  rw [if_pos h1, if_pos h2, Int.toNat_natCast]
/-- targets within a comprehension -/
theorem pg_tupK {X : Cx} {K : PySem.W.Frag} {es : List Expr} {k : Nat} {pos : Pos} {t : TGs} {n : Nat} (hK : X.K = K) (hc : X.calm = true) (h : PGs X es t)
    (hn : (assignEach es X.env).length = n) (hst : (assignEach es X.env).findIdx? (·.1) = none) : PG X (.Tuple es k pos) (gTup K n t) := by
  subst hK
  exact pg_tup hc h hn hst
/-! ### tuples of ints -/
section
variable {K : PySem.W.Frag} {H : Hp}
def dIs (ns : List Int) : PyData := .tuple (ns.map PyData.int)
theorem lay_ints : ∀ ts : List Int, PyData.canLayAll0 (ts.map PyData.int) = true
  | [] => rfl
  | t :: ts => by
    show (PyData.canLay0 (.int t) && PyData.canLayAll0 (ts.map PyData.int)) = true
    rw [lay_ints ts]
    rfl
theorem depth_ints : ∀ ts : List Int, PyData.depthAll (ts.map PyData.int) ≤ 1
  | [] => by decide
  | t :: ts => by
    have := depth_ints ts
    show max (PyData.depth (.int t)) (PyData.depthAll (ts.map PyData.int)) ≤ 1
    have e : PyData.depth (.int t) = 0 := rfl
    omega
theorem shaped_ints (ts : List Int) : SeqAt.shaped (dIs ts) = true := by
  unfold SeqAt.shaped dIs
  have a : PyData.canLay0 (.tuple (ts.map PyData.int)) = true := lay_ints ts
  have b : PyData.depth (.tuple (ts.map PyData.int)) ≤ 64 := by
    have := depth_ints ts
    show PyData.depthAll (ts.map PyData.int) + 1 ≤ 64
    omega
  rw [a, decide_eq_true b]
  rfl
theorem eqvAll_ints : ∀ xs ys : List Int, PyData.eqvAll (xs.map PyData.int) (ys.map PyData.int) = decide (xs = ys)
  | [], [] => rfl
  | [], _ :: _ => rfl
  | _ :: _, [] => rfl
  | x :: xs, y :: ys => by
    show ((x == y) && PyData.eqvAll (xs.map PyData.int) (ys.map PyData.int)) = _
    rw [eqvAll_ints xs ys]
    by_cases h1 : x = y
    · by_cases h2 : xs = ys
      · simp [h1, h2]
      · simp [h2]
    · simp [h1]
theorem eqv_ints (xs ys : List Int) : PyData.eqv (dIs xs) (dIs ys) = decide (xs = ys) := eqvAll_ints xs ys
theorem dp_I {p : Addr} {ns : List Int} (h : H p = some (.tup (ns.map V.int))) : Dp K H (.ref p) (dIs ns) := .tup (SqT.of h) (dp_ints ns)
end
/-! ### sums, slices, multiples of tuples of any size; isinstance of several classes -/
theorem rd_catA {K : PySem.W.Frag} {x y : V} {H : Hp} {Q : VK} : rCatA K x y H Q = ∃ a b xs ys, x = .ref a ∧ y = .ref b ∧ SqT K H a xs ∧ SqT K H b ys ∧ xs.length + ys.length ≤ sizeLine ∧
  (xs = [] → Q (.ref b) H) ∧ (xs ≠ [] → ys = [] → Q (.ref a) H) ∧ (xs ≠ [] → ys ≠ [] → ∀ p, H p = none → Q (.ref p) (upd H p (.tup (xs ++ ys)))) := rfl
theorem rd_slA {K : PySem.W.Frag} {x : V} {lo hi : Option Int} {H : Hp} {Q : VK} : rSlA K x lo hi H Q = ∃ a xs, x = .ref a ∧ SqT K H a xs ∧
  (HT.sIx xs.length 0 lo = 0 ∧ HT.sIx xs.length xs.length hi = xs.length → Q (.ref a) H) ∧ (¬ (HT.sIx xs.length 0 lo = 0 ∧ HT.sIx xs.length xs.length hi = xs.length) → ∀ p, H p = none → Q (.ref p) (upd H p (.tup (cutV xs lo hi)))) := rfl
theorem rd_repT {K : PySem.W.Frag} {x y : V} {H : Hp} {Q : VK} : rRepT K x y H Q = ∃ l k xs, x = .ref l ∧ y = .int k ∧ SqT K H l xs ∧ xs ≠ [] ∧ 2 ≤ k ∧ k ≤ 1000 ∧ xs.length ≤ 1000 ∧ ∀ p, H p = none → Q (.ref p) (upd H p (.tup (List.replicate k.toNat xs).flatten)) := rfl
theorem rd_isiT {K : PySem.W.Frag} {xs : List V} {H : Hp} {Q : VK} : rIsiT K xs H Q = ∃ (x : V) (tp : Addr) (cs : List V) (t : Value) (us : List Value) (b : Bool), xs = [x, .ref tp] ∧ H tp = some (.tup cs) ∧ Paired ClsV cs us ∧ TyX K H x t ∧ PySem.W.kitAny K t us = some b ∧ Q (.bl b) H := rfl
theorem isiT_mk {K : PySem.W.Frag} {x : V} {T t1 t2 : String} {b1 b2 : Bool} {H : Hp} {tp : Addr} {Q : VK} (hT : H tp = some (.tup [.ty t1, .ty t2])) (ty : TyX K H x (.type T)) (e1 : kitB T t1 = some b1) (e2 : kitB T t2 = some b2) (q : Q (.bl (b1 || b2)) H) : rIsiT K [x, .ref tp] H Q := by
  refine ⟨x, tp, _, _, [.type t1, .type t2], b1 || b2, rfl, hT, .cons (.ty t1) (.cons (.ty t2) .nil), ty, kitAny_cons (kit_ty e1) (fun h => kitAny_cons (r := b1 || b2) (kit_ty e2) (fun h2 => ?_) (fun h2 => ?_)) (fun h => ?_), q⟩
  · rw [h, h2]; rfl
  · rw [h2, Bool.or_true]
  · rw [h]; rfl
/-! ### rows of ints that stand in a list or a tuple -/
def RowsAt (H : Hp) (xs : List V) (rs : List (List Int)) : Prop := xs.length = rs.length ∧ ∀ (i : Nat) (r : List Int), rs[i]? = some r → ∃ p : Addr, xs[i]? = some (V.ref p) ∧ H p = some (.tup (r.map V.int))
section
variable {K : PySem.W.Frag} {H H' : Hp} {xs : List V} {rs : List (List Int)}
theorem RowsAt.nil : RowsAt H [] [] := ⟨rfl, fun i r e => by simp at e⟩
theorem RowsAt.same (h : RowsAt H xs rs) (s : Same H H') : RowsAt H' xs rs := ⟨h.1, fun i r e => by
  obtain ⟨p, h1, h2⟩ := h.2 i r e
  exact ⟨p, h1, s _ _ h2⟩⟩
theorem RowsAt.snoc {p : Addr} {r : List Int} (h : RowsAt H xs rs) (hp : H p = some (.tup (r.map V.int))) : RowsAt H (xs ++ [V.ref p]) (rs ++ [r]) := by
  refine ⟨by rw [List.length_append, List.length_append, h.1]; rfl, fun i r' e => ?_⟩
  rcases Nat.lt_or_ge i rs.length with c | c
  · rw [List.getElem?_append_left c] at e
    rw [List.getElem?_append_left (by rw [h.1]; exact c)]
    exact h.2 i r' e
  · rw [List.getElem?_append_right c] at e
    rw [List.getElem?_append_right (by rw [h.1]; exact c), h.1]
    cases hi : i - rs.length with
    | zero =>
      rw [hi] at e
      cases e
      exact ⟨p, rfl, hp⟩
    | succ n => rw [hi] at e; simp at e
theorem RowsAt.get (h : RowsAt H xs rs) {i : Nat} {v : V} (e : xs[i]? = some v) : ∃ p r, v = .ref p ∧ rs[i]? = some r ∧ H p = some (.tup (r.map V.int)) := by
  have hi : i < rs.length := by
    rw [← h.1]
    exact (List.getElem?_eq_some_iff.mp e).1
  obtain ⟨p, h1, h2⟩ := h.2 i _ (List.getElem?_eq_getElem hi)
  rw [e] at h1
  cases h1
  exact ⟨p, _, rfl, List.getElem?_eq_getElem hi, h2⟩
theorem RowsAt.updL {D : Addr} {l : List V} {o : HO} (h : RowsAt H xs rs) (hD : H D = some (.lst l)) : RowsAt (upd H D o) xs rs := ⟨h.1, fun i r e => by
  obtain ⟨p, h1, h2⟩ := h.2 i r e
  refine ⟨p, h1, ?_⟩
  rw [upd_ne (ne_of h2 hD (by intro z; cases z))]
  exact h2⟩
end
end CB
/-! a list stored into a slice of a list: from a place on, and from a place on with a step -/
namespace CB
open PySem PySem.Spec PyProof.Rows L2
/-- the items behind the store -/
def putS {α : Type} (xs ys : List α) (d e st : Nat) : List α := if st = 1 then xs.take d ++ ys ++ xs.drop (max d e) else
  (((List.range ys.length).map fun k => d + st * k).zip ys).foldl (fun zs q => zs.set q.1 q.2) xs
theorem foldl_set_map {α β : Type} (f : α → β) : ∀ (ps : List (Nat × α)) (xs : List α), (ps.map fun q => (q.1, f q.2)).foldl (fun zs q => zs.set q.1 q.2) (xs.map f) = (ps.foldl (fun zs q => zs.set q.1 q.2) xs).map f
  | [], _ => rfl
  | q :: ps, xs => by
    show (ps.map fun q => (q.1, f q.2)).foldl (fun zs q => zs.set q.1 q.2) ((xs.map f).set q.1 (f q.2)) = _
    rw [← List.map_set, foldl_set_map f ps]
    rfl
theorem foldl_set_len {α : Type} : ∀ (ps : List (Nat × α)) (xs : List α), (ps.foldl (fun zs q => zs.set q.1 q.2) xs).length = xs.length
  | [], _ => rfl
  | q :: ps, xs => by
    show (ps.foldl (fun zs q => zs.set q.1 q.2) (xs.set q.1 q.2)).length = _
    rw [foldl_set_len ps, List.length_set]
theorem vals_foldl : ∀ {ys : List V} {us : List Value} (ks : List Nat) {xs : List V} {ts : List Value}, Vals ys us → Vals xs ts →
    Vals ((ks.zip ys).foldl (fun zs q => zs.set q.1 q.2) xs) ((ks.zip us).foldl (fun zs q => zs.set q.1 q.2) ts)
  | _, _, [], _, _, _, r => r
  | _, _, k :: ks, _, _, .nil, r => r
  | _, _, k :: ks, _, _, .cons h t, r => vals_foldl ks t (r.set h k)
theorem arr_foldl {α : Type} : ∀ (ps : List (Nat × α)) (xs : List α), ps.foldl (fun (zs : Array α) q => zs.setIfInBounds q.1 q.2) xs.toArray = (ps.foldl (fun zs q => zs.set q.1 q.2) xs).toArray
  | [], _ => rfl
  | q :: ps, xs => by
    show ps.foldl _ (xs.toArray.setIfInBounds q.1 q.2) = _
    rw [List.setIfInBounds_toArray, arr_foldl ps]
    rfl
section
variable {prog : Program} {w : World} {A : Around} {E : Value → Shared → Prop} {s : Shared}
theorem bounds_from {d n : Nat} {st : Option Int} (hd : d ≤ n) (h1 : 0 < st.getD 1) : sliceBounds (some (d : Int)) none st n = ((d : Int), (n : Int), st.getD 1) := by
  simp only [sliceBounds]
  have a : ¬ ((d : Int) < 0) := by omega
  simp only [a, h1, gt_iff_lt, if_true, if_false]
  congr 1
  omega
/-- the write of a list's slots, whatever it is -/
theorem store_slice {l b sl : Addr} {us ws : Array Value} {n m d st : Nat} {vl vs : Value} {so : Option Int} {Q : Unit → Shared → Prop}
    (hl : s.heap.get? l = some { cls := .type "list", data := .seq us n }) (hb : s.heap.get? b = some { cls := .type "list", data := .seq ws m }) (ne : l ≠ b)
    (hs : s.heap.IsSliceOf sl vl .none vs) (pl : IsPart vl (some (d : Int))) (ps : IsPart vs so) (hso : so.getD 1 = (st : Int)) (s0 : 0 < st) (hd : d ≤ us.size)
    (hz : us.size + ws.size ≤ sizeLine) (hc : st ≠ 1 → ws.size = (sliceRange (d : Int) (us.size : Int) (st : Int)).length)
    (h : Q () { s with heap := s.heap.update l (Obj.mapSeq fun xs => if st = 1 then xs.extract 0 d ++ ws ++ xs.extract (max d us.size) xs.size else
      ((sliceRange (d : Int) (us.size : Int) (st : Int)).zip ws.toList).foldl (fun xs q => xs.setIfInBounds q.1 q.2) xs) }) :
    wpAny (model prog w) A (setItem (.ref l) (.ref sl) (.ref b)) Q E s := by
  have il := PySem.IsL.isList hl
  have ib := PySem.IsL.isList hb
  obtain ⟨os, hos, hcs, hds⟩ := id hs
  have ty : s.TypeIs (.ref sl) "slice" := ⟨os, hos, hcs⟩
  have s1 : so ≠ some 0 := fun z => by rw [z] at hso; have : (0 : Int) = (st : Int) := hso; omega
  have raw0 : ¬ ((rawPart so == rawInt 0) = true) := by
    cases so with
    | none => exact Bool.false_ne_true
    | some c => exact fun z => s1 (by have : c = 0 := by simpa [rawPart, rawInt] using z
                                      rw [this])
  have diff : Builtin.List.listSameRef (.ref l) (.ref b) = false := beq_eq_false_iff_ne.mpr ne
  have mx : (max (d : Int) (us.size : Int)).toNat = max d us.size := by omega
  unfold setItem
  try with_reducible refine wpAny_holding ?_
  first | refine wpAny_bind (wpAny_pure ?_) | skip
  refine wpAny_bind (wpAny_sequenceKey il.typeIs (by decide) (wpAny_bind (wpAny_callSpecial?_slot (name := Str.ofString "__setitem__") il.typeIs slot_list_setitem (wpAny_call_entry slot_list_setitem il.typeIs entry_list_setitem ?_ (args_list_setitem _ _ _)))))
  show wpAny _ _ (Builtin.List.listSubscript? (.ref sl) >>= fun _ => _) _ _ s
  refine wpAny_bind (m := Builtin.List.listSubscript? (.ref sl)) ?_
  unfold Builtin.List.listSubscript?
  refine wpAny_bind (wpAny_specialOf ty slice_no_index ?_)
  rw [if_pos (by rfl)]
  refine wpAny_pure ?_
  show wpAny _ _ (typeOf (.ref sl) >>= fun _ => _) _ _ s
  refine wpAny_bind (wpAny_typeOf ty ?_)
  first | rw [if_neg (by decide)] | refine PySem.W.KFB.if_not (by decide) ?_
  rw [listSliceParts_eq]
  refine wpAny_bind (wpAny_bind (wpAny_field hos hds (x := vs) rfl (wpAny_bind (wpAny_listPart ps ?_))))
  rw [if_neg raw0]
  refine wpAny_bind (wpAny_field hos hds (x := vl) rfl (wpAny_bind (wpAny_listPart pl (wpAny_bind (wpAny_field hos hds (x := .none) rfl (wpAny_bind (wpAny_listPart .none (wpAny_pure ?_))))))))
  first
    | refine PySem.W.KFB.if_not diff ?_
    | (dsimp only
       rw [if_neg (by rw [diff]; exact Bool.false_ne_true)])
  refine wpAny_bind (m := Builtin.List.listAllItems (.ref b) "must assign iterable to extended slice") ?_
  unfold Builtin.List.listAllItems
  refine wpAny_bind (wpAny_typeOf ib.typeIs ?_)
  first | refine PySem.W.KFB.if_so (by decide) ?_ | rw [if_pos (by decide)]
  unfold Builtin.List.listItems
  refine wpAny_bind (wpAny_seqItems hb rfl (wpAny_pure (wpAny_bind (wpAny_bind (wpAny_seqItems hl rfl (wpAny_pure ?_))))))
  refine wpAny_bind (wpAny_of_eq ((sliceIndices_raw (some (d : Int)) none so us.size s1).trans (congrArg (pure : Int × Int × Int → Sem (Int × Int × Int)) (bounds_from hd (by omega)))) ?_)
  rw [hso]
  show wpAny _ _ (if ((st : Int) == 1) = true then _ else _) _ _ s
  by_cases one : st = 1
  · subst one
    rw [if_pos (by decide)]
    refine wpAny_bind (wpAny_rule ?_)
    first | refine PySem.W.KFB.if_not (notLongL hz) ?_ | (rw [notLongL hz, if_neg Bool.false_ne_true])
    first | refine wpAny_bind (wpAny_pure ?_) | skip
    show wpAny _ _ (updateSeq l (fun xs => xs.extract 0 ((d : Int)).toNat ++ ws ++ xs.extract (max (d : Int) (us.size : Int)).toNat xs.size) >>= fun _ => _) _ _ s
    rw [mx, Int.toNat_natCast]
    refine wpAny_bind (wpAny_updateSeq (hz := by omega) (_hz' := by simp only [Array.size_append, Array.size_extract]; omega) hl rfl ?_)
    refine wpAny_bind (wpAny_letGo ?_)
    first
      | exact wpAny_bind (wpAny_pure (wpAny_pure ⟨.none, rfl, wpAny_pure h⟩))
      | exact wpAny_pure ⟨.none, rfl, wpAny_pure h⟩
  · rw [if_neg (by rw [beq_iff_eq]; omega)]
    have hc := hc one
    have np : (ws.size != (sliceRange (d : Int) (us.size : Int) (st : Int)).length) = false := by rw [hc]; exact bne_self_eq_false _
    first | refine PySem.W.KFB.if_not np ?_ | (dsimp only; rw [np, if_neg Bool.false_ne_true])
    first | refine wpAny_bind (wpAny_pure ?_) | skip
    refine wpAny_bind (wpAny_rule ?_)
    have z2 : ∀ (ps : List (Nat × Value)) (xs : Array Value), (ps.foldl (fun xs q => xs.setIfInBounds q.1 q.2) xs).size = xs.size := by
      intro ps
      induction ps with
      | nil => intro xs; rfl
      | cons q ps ih => intro xs; exact (ih _).trans (Array.size_setIfInBounds ..)
    show wpAny _ _ (updateSeq l (fun xs => ((sliceRange (d : Int) (us.size : Int) (st : Int)).zip ws.toList).foldl (fun xs q => xs.setIfInBounds q.1 q.2) xs) >>= fun _ => _) _ _ s
    refine wpAny_bind (wpAny_updateSeq (hz := by omega) (_hz' := by rw [z2]; omega) hl rfl ?_)
    simp only [if_neg one] at h
    refine wpAny_bind (wpAny_letGo ?_)
    first
      | exact wpAny_bind (wpAny_pure (wpAny_pure ⟨.none, rfl, wpAny_pure h⟩))
      | exact wpAny_pure ⟨.none, rfl, wpAny_pure h⟩
theorem range_from {d n st : Nat} (s0 : 0 < st) : sliceRange (d : Int) (n : Int) (st : Int) = (List.range ((n - d + (st - 1)) / st)).map fun k => d + st * k := by
  unfold sliceRange
  rw [if_pos (show (st : Int) > 0 by omega)]
  have e : (if (d : Int) < (n : Int) then ((n : Int) - d + st - 1) / (st : Int) else 0).toNat = (n - d + (st - 1)) / st := by
    by_cases c : d < n
    · rw [if_pos (by omega)]
      have : (n : Int) - d + st - 1 = ((n - d + (st - 1) : Nat) : Int) := by omega
      rw [this]
      show (((n - d + (st - 1)) / st : Nat) : Int).toNat = _
      rw [Int.toNat_natCast]
    · rw [if_neg (by omega)]
      have : n - d = 0 := by omega
      rw [this, Nat.zero_add, Nat.div_eq_of_lt (by omega)]
      rfl
  show List.map _ (List.range (if (d : Int) < (n : Int) then ((n : Int) - d + st - 1) / (st : Int) else 0).toNat) = _
  rw [e]
  refine List.map_congr_left fun k _ => ?_
  show ((d : Int) + (st : Int) * (k : Int)).toNat = _
  have : (st : Int) * (k : Int) = ((st * k : Nat) : Int) := (Int.natCast_mul _ _).symm
  rw [this]
  omega
end
section
variable {X : Cx} {pos p2 : Pos}
/-- o[lo:] = v, o[lo::st] = v: by values -/
def rPutS : V → Option Int → Option Int → V → Hp → (Hp → Prop) → Prop := fun o lo so v H Q => ∃ (l b : Addr) (xs ys : List V) (d st : Nat), o = .ref l ∧ v = .ref b ∧ l ≠ b ∧ H l = some (.lst xs) ∧ H b = some (.lst ys) ∧
  lo = some (d : Int) ∧ so.getD 1 = (st : Int) ∧ 0 < st ∧ d ≤ xs.length ∧ xs.length + ys.length ≤ sizeLine ∧ (st ≠ 1 → ys.length = (xs.length - d + (st - 1)) / st) ∧ Q (upd H l (.lst (putS xs ys d xs.length st)))
theorem put_slice {pins : List (Addr × Obj)} {s : Shared} {σ : L2.St} {H : Hp} {o v : V} {lo so : Option Int} {ov u vl vs : Value} {sl : Addr} {Q : Hp → Prop} (I : Inv X pins σ H s) (ro : RelV o ov) (rv : RelV v u)
    (hs : s.heap.IsSliceOf sl vl .none vs) (pl : IsPart vl lo) (ps : IsPart vs so) (h : rPutS o lo so v H Q) : wpAny (model X.prog X.w) X.A (setItem ov (.ref sl) u) (fun _ s' => ∃ H', Inv X pins σ H' s' ∧ Q H') X.xe s := by
  obtain ⟨l, b, xs, ys, d, st, rfl, rfl, ne, hl, hb, rfl, hst, s0, hd, hz, hc, q⟩ := h
  cases ro
  cases rv
  obtain ⟨z, its, n, r, el, e⟩ := I.lstM hl
  obtain ⟨z2, ws, m, r2, el2, e2⟩ := I.lstM hb
  refine store_slice (d := d) (st := st) e e2 ne hs pl ps hst s0 (by rw [List.size_toArray]; omega) (by rw [List.size_toArray, List.size_toArray]; omega) (fun c => ?_) ⟨_, ?_, q⟩
  · rw [range_from s0, List.length_map, List.length_range, List.size_toArray, List.size_toArray, ← el2, ← el]
    exact hc c
  · unfold putS
    by_cases one : st = 1
    · refine I.lset (its' := its.take d ++ ws ++ its.drop (max d xs.length)) (t' := s.toks) hl e ?_ ?_ ?_
      · simp only [if_pos one]
        show its.toArray.extract 0 d ++ ws.toArray ++ its.toArray.extract (max d its.toArray.size) its.toArray.size = _
        rw [splice_eq, List.size_toArray, ← el]
      · rw [if_pos one]
        exact Vals.append (Vals.append (r.take _) r2) (r.drop _)
      · rw [if_pos one, List.length_append, List.length_append, List.length_take, List.length_drop]
        omega
    · refine I.lset (its' := (((List.range ys.length).map fun k => d + st * k).zip ws).foldl (fun zs q => zs.set q.1 q.2) its) (t' := s.toks) hl e ?_ ?_ ?_
      · simp only [if_neg one]
        show ((sliceRange (d : Int) (its.toArray.size : Int) (st : Int)).zip ws).foldl (fun xs q => xs.setIfInBounds q.1 q.2) its.toArray = _
        rw [arr_foldl, range_from s0, List.size_toArray, ← el, hc one]
      · rw [if_neg one]
        exact vals_foldl _ r2 r
      · rw [if_neg one, foldl_set_len]
        omega
def gPutS (te : TE) (tl ts : TO) : TG := fun v σ H Q => te σ H fun o H1 => tl σ H1 fun lo H2 => ts σ H2 fun so H3 => rPutS o lo so v H3 fun H4 => Q σ H4
theorem pg_putS {rl : Value → Value → Value → List Value} {o : Expr} {lo so : Option Expr} {te : TE} {tl ts : TO} (ho : PE X o te) (hl : PO X lo tl) (hs : PO X so ts)
    (ha : ∀ v, assign (.Subscript o (.Slice lo none so p2) pos) X.env v = (do
      let a ← holding [v] (eval o X.env)
      let i ← holding [v, a] (eval (.Slice lo none so p2) X.env)
      standAt pos
      holding [v, a, i] (setItem a i v)
      release (rl v a i) []) := by intro _; rfl) : PG X (.Subscript o (.Slice lo none so p2) pos) (gPutS te tl ts) := by
  refine ⟨fun pins s σ H v u Q I r h => ?_⟩
  rw [ha]
  refine wpAny_bind (wpAny_holding (thn (ho.run pins s σ H _ I h) fun a s1 ⟨x, H1, I1, r1, q1⟩ => ?_))
  refine wpAny_bind (wpAny_holding ?_)
  refine wpAny_Slice (thn (hl.run pins s1 σ H1 _ I1 q1) fun vl s2 ⟨lo, H2, I2, pl, q2⟩ => ?_)
  rw [evalPart_none]
  refine wpAny_pure (thn (hs.run pins s2 σ H2 _ I2 q2) fun vs s3 ⟨so, H3, I3, ps, q3⟩ => ?_)
  have I4 : Inv X pins σ H3 { s3 with heap := s3.heap.push { cls := .type "slice", data := .fields #[vl, .none, vs] } } := I3.kept (t' := s3.toks) fun b ob q => Heap.get?_push_of_some _ q
  refine wpAny_bind (wpAny_standAt (wpAny_bind (wpAny_holding (thn (put_slice (sl := s3.heap.objs.size) I4 r1 r (Heap.IsSliceOf.new ..) pl ps q3) fun _ s5 ⟨H5, I5, q5⟩ => ?_))))
  exact wpAny_release ⟨σ, H5, I5, q5⟩
theorem rd_putS {te : TE} {tl ts : TO} : gPutS te tl ts v σ H Q = te σ H fun o H1 => tl σ H1 fun lo H2 => ts σ H2 fun so H3 => rPutS o lo so v H3 fun H4 => Q σ H4 := rfl
theorem rPutS.w {l b : Addr} {xs ys : List V} {d st : Nat} {lo so : Option Int} {H : Hp} {Q : Hp → Prop} (ne : l ≠ b) (hl : H l = some (.lst xs)) (hb : H b = some (.lst ys)) (e1 : lo = some (d : Int)) (e2 : so.getD 1 = (st : Int)) (s0 : 0 < st)
    (hd : d ≤ xs.length) (hz : xs.length + ys.length ≤ sizeLine) (hc : st ≠ 1 → ys.length = (xs.length - d + (st - 1)) / st) (q : Q (upd H l (.lst (putS xs ys d xs.length st)))) : rPutS (.ref l) lo so (.ref b) H Q :=
  ⟨l, b, xs, ys, d, st, rfl, rfl, ne, hl, hb, e1, e2, s0, hd, hz, hc, q⟩
end
end CB
namespace CB
open PySem PySem.Spec PyProof.Rows L2
/-! ### Refused alone, where a law has no Malformed -/
structure ErrP (K : PySem.W.Frag) (mg : Str → Option Value) (C f : Addr) : Prop where
  g : mg "Refused" = some (.ref C)
  ox : OexC K C
  i : PySem.W.findIn K (.ref C) "__init__" = some (some (.ref f))
  t : PySem.W.typeIn K (.ref f) = some (.type "function")
  n : PySem.W.findIn K (.ref C) "reason" = some none
  xf : XfC K C
  rr : PySem.W.exmOne K (.ref C) (.ref C) = some true
structure ErrQ (P : Program) (w : World) (K : PySem.W.Frag) (mg : Str → Option Value) (base : Heap) (C : Addr) : Prop where
  r : ∃ f fd, ErrP K mg C f ∧ FnOk P w K mg base CX0 1 f fd ["self", "reason"] (spRI K) ∧ Binds K fd ["self", "reason"] []
theorem ps_refQ {X : Cx} {W : WX} {C : Addr} {m : Str} {j : Nat} {p p2 pos pp : Pos} (E : ErrQ X.prog X.w X.K X.mg X.base C) (hc : X.calm = true) (tk : Takes X W) (hr : Room 2 X.A) (hg : Gl X "Refused") (hs : starEach [Expr.Constant (.str m) j p2] X.env = (false, eval (Expr.Constant (.str m) j p2) X.env) :: starEach [] X.env := by rfl)
    (hpl : (backTo pos (starEach [] X.env)).any (·.1) = false := by rfl) :
    PS X (.Raise (some (.Call (.Name "Refused" p) [.Constant (.str m) j p2] [] pos)) none pp) (fun _ σ H => ∀ d H', Same H H' → H d = none → H' d = some (.xd [("reason", .str m)]) → W (.ref C) (some d) σ H') := by
  obtain ⟨f, fd, R, F, b⟩ := E.r
  refine ⟨fun pins s σ H D I h => ?_⟩
  refine (ps_raise hc tk (pmk_oex R.ox R.i R.t F hr b .nil pass0 hg R.g (pa_cons pe_str pa_nil hs) rfl hs hpl)).run pins s σ H D I ?_
  show ([V.str m].length ≤ 1000 ∧ _)
  refine ⟨by show 1 ≤ 1000; decide, fun a na => ⟨a, C, .str m, rfl, R.ox, R.n, upd_same, fun dx ndx ne => ⟨rfl, dx, [("reason", .str m)], upd_same, ?_, ?_, ?_⟩⟩⟩
  · rw [upd_ne ne, upd_same]
  · rw [upd_ne ne] at ndx
    exact ndx
  · rw [upd_ne ne] at ndx
    refine h dx _ (fun b o e => ?_) ndx upd_same
    have hbd : b ≠ dx := ne_of_none e ndx
    have hba : b ≠ a := ne_of_none e na
    rw [upd_ne hbd, del_ne hba, upd_ne hba, upd_ne hbd, upd_ne hba]
    exact e
end CB
namespace CB
open PySem PySem.Spec PyProof.Rows L2
/-- a tuple of ints that a module's name holds -/
abbrev TC (K : PySem.W.Frag) (mg : Str → Option Value) (x : Str) (ns : List Int) : Prop := ∃ a : Addr, mg x = some (.ref a) ∧ ∀ H : Hp, SqT K H a (ns.map V.int)
end CB
namespace CB
open PySem PySem.Spec PyProof.Rows L2
/-- a loop whose test leaves another heap -/
theorem while_h {c : TT} {tb : TS} {D : Ends} {σ : L2.St} {H : Hp} (Pw : L2.St → Hp → Prop) (μ : L2.St → Hp → Nat) (h0 : Pw σ H)
    (hs : ∀ σ H, Pw σ H → ∀ N : L2.St → Hp → Prop, (∀ σ' H', Pw σ' H' → μ σ' H' < μ σ H → N σ' H') →
      ∀ R : Bool → Hp → Prop, (∀ H1, tb { D with nx := N, ct := N, bk := D.nx } σ H1 → R true H1) → (∀ H1, D.nx σ H1 → R false H1) → c σ H R) : tWhile c tb D σ H := by
  refine ⟨fun m σ H => m = μ σ H ∧ Pw σ H, ⟨_, rfl, h0⟩, ?_⟩
  rintro m σ H ⟨rfl, p⟩
  refine hs σ H p (fun σ' H' => Pw σ' H' ∧ μ σ' H' < μ σ H) (fun σ' H' a b => ⟨a, b⟩) _ (fun H1 h => ?_) (fun H1 h => ?_)
  · rw [if_pos rfl]
    exact ⟨_, fun σ' H' ⟨p', l⟩ => ⟨_, l, rfl, p'⟩, h⟩
  · rw [if_neg Bool.false_ne_true]
    exact h
end CB
namespace CB
open PySem PySem.Spec PyProof.Rows L2
/-- a value's truth within a comprehension -/
theorem pt_truthK {X : Cx} {K : PySem.W.Frag} (h : X.K = K) {a : Expr} {ta : TE} (ha : PE X a ta) (he : ∀ whole, isTrue a X.env whole = (do let v ← whole; standAt a.pos; holding [v] (truthy v))) :
    PT X a (fun σ H Q => ta σ H fun x H' => ∃ k, TruV K x H' k ∧ Q k H') := by
  subst h
  exact pt_truth ha he
end CB
/-! zip of two, each a list or a tuple -/
namespace CB
open PySem PySem.Spec PyProof.Rows L2
/-- a tuple (true) or a list -/
def SqB (t : Bool) (K : PySem.W.Frag) (H : Hp) (a : Addr) (xs : List V) : Prop := match t with
  | true => SqT K H a xs
  | false => SqL K H a xs
def ItB (t : Bool) (h : Heap) (it a : Addr) (i : Nat) : Prop := match t with
  | true => h.IsTupleIter it a i
  | false => h.IsListIter it a i
def HsB (t : Bool) (h : Heap) (a : Addr) (us : Array Value) : Prop := match t with
  | true => h.IsTuple a us
  | false => h.IsList a us
def obB (t : Bool) (a : Addr) : Obj := match t with
  | true => { cls := .type "tuple_iterator", data := .fields #[.ref a, .int 0 0] }
  | false => { cls := .type "list_iterator", data := .fields #[.ref a, .int 0 0] }
theorem SqB.inj {X : Cx} {pins : List (Addr × Obj)} {σ : L2.St} {H : Hp} {s : Shared} {t : Bool} {a : Addr} {xs ys : List V} (I : Inv X pins σ H s) (h : SqB t X.K H a xs) (h' : SqB t X.K H a ys) : xs = ys := by
  cases t with
  | true => exact I.tuple_inj h h'
  | false => exact I.list_inj h h'
theorem SqB.laid {X : Cx} {pins : List (Addr × Obj)} {σ : L2.St} {H : Hp} {s : Shared} {t : Bool} {a : Addr} {xs : List V} (I : Inv X pins σ H s) (h : SqB t X.K H a xs) : ∃ us : List Value, Vals xs us ∧ HsB t s.heap a us.toArray := by
  cases t with
  | true =>
    obtain ⟨us, r, p, _⟩ := I.tuple h
    exact ⟨us, r, p⟩
  | false =>
    obtain ⟨us, r, p, _⟩ := I.list h
    exact ⟨us, r, p.isList⟩
theorem HsB.lt {t : Bool} {h : Heap} {a : Addr} {us : Array Value} (p : HsB t h a us) : a < h.objs.size := by
  cases t with
  | true => obtain ⟨_, e, _⟩ := p; exact Heap.lt_size e
  | false => obtain ⟨_, e, _⟩ := p; exact Heap.lt_size e
theorem HsB.at {t : Bool} {h h' : Heap} {a : Addr} {us : Array Value} (p : HsB t h a us) (k : ∀ o, h.get? a = some o → h'.get? a = some o) : HsB t h' a us := by
  cases t with
  | true => exact Heap.IsTuple.at p k
  | false => exact Heap.IsList.at p k
theorem ItB.at {t : Bool} {h h' : Heap} {it a : Addr} {i : Nat} (p : ItB t h it a i) (k : ∀ o, h.get? it = some o → h'.get? it = some o) : ItB t h' it a i := by
  cases t with
  | true => exact Heap.IsTupleIter.at p k
  | false => exact Heap.IsListIter.at p k
theorem ItB.ob {t : Bool} {h : Heap} {it a : Addr} {i : Nat} (p : ItB t h it a i) : ∃ o, h.get? it = some o ∧ ∀ v, o.data ≠ .cell v := by
  cases t with
  | true => obtain ⟨o, e, _, d⟩ := p; exact ⟨o, e, fun v q => by rw [d] at q; cases q⟩
  | false => obtain ⟨o, e, _, d⟩ := p; exact ⟨o, e, fun v q => by rw [d] at q; cases q⟩
theorem drawsB {prog : Program} {w : World} {A : Around} (t : Bool) (hh : A.handled = none) (it a : Addr) (hne : a ≠ it) (us : Array Value) :
    Draws prog w A it [it, a] us.size (fun i v => us[i]? = some v) (fun i h => ItB t h it a i ∧ HsB t h a us) := by
  cases t with
  | true => exact Draws.tuple hh it a hne us
  | false => exact Draws.list hh it a hne us
theorem beginsB (t : Bool) (a : Addr) (us : Array Value) : Begins (.ref a) (obB t a) fun h => HsB t h a us := by
  cases t with
  | true => exact begins_tuple a us
  | false => exact begins_list a us
theorem itB_new {t : Bool} {h : Heap} {it a : Addr} (e : h.get? it = some (obB t a)) : ItB t h it a 0 := by
  cases t with
  | true => exact ⟨_, e, rfl, rfl⟩
  | false => exact ⟨_, e, rfl, rfl⟩
/-- what stands at a and b at each turn, the items in new pairs -/
def Itm (s t : Bool) (K : PySem.W.Frag) (a b : Addr) : It where
  go := fun i H => ∃ (xs ys : List V) (x y : V), (SqB s K H a xs ∧ xs[i]? = some x) ∧ SqB t K H b ys ∧ ys[i]? = some y
  yld := fun i H v H' => ∃ T x y, v = .ref T ∧ H T = none ∧ H' = upd H T (.tup [x, y]) ∧ (∀ xs, SqB s K H a xs → xs[i]? = some x) ∧ (∀ ys, SqB t K H b ys → ys[i]? = some y)
  stop := fun i H => ∃ xs ys : List V, (SqB s K H a xs ∧ SqB t K H b ys) ∧ i ≤ xs.length ∧ i ≤ ys.length ∧ (i = xs.length ∨ i = ys.length)
/-- the state of a zip's own objects -/
def ZpB (s t : Bool) (a b z TI TO i1 i2 : Addr) (i : Nat) (h : Heap) : Prop :=
  IsZip h z TI TO .none ∧ IsTupOf2 h TI (.ref i1) (.ref i2) ∧ (∃ x y, IsTupOf2 h TO x y) ∧ ItB s h i1 a i ∧ ItB t h i2 b i
theorem nm2 {x y z : Addr} (h1 : x ≠ y) (h2 : x ≠ z) : x ∉ [y, z] := fun h => by
  rcases List.mem_cons.mp h with e | e
  · exact h1 e
  · exact h2 (List.mem_singleton.mp e)
theorem fp5 {z TI TO i1 i2 c : Addr} {p : Addr → Prop} (hc : c ∈ [z, TI, TO, i1, i2]) (h0 : p z) (h1 : p TI) (h2 : p TO) (h3 : p i1) (h4 : p i2) : p c := by
  simp only [List.mem_cons, List.not_mem_nil, or_false] at hc
  rcases hc with rfl | rfl | rfl | rfl | rfl <;> assumption
theorem turn_zipM {P : Program} {w : World} {K : PySem.W.Frag} {elts : List Expr} {kk : Nat} {tpos : Pos} (s t : Bool) {a b z TI TO i1 i2 : Addr} (S : ZipSep2 z TI TO i1 i2 [i1, a] [i2, b]) (n1 : a ≠ i1) (n2 : b ≠ i2) :
    Turn P w K (.Tuple elts kk tpos) (Itm s t K a b) [z, TI, TO, i1, i2] z (ZpB s t a b z TI TO i1 i2) where
  mem := List.mem_cons_self
  obj := fun i h st c hc => by
    obtain ⟨q0, q1, ⟨x, y, q2⟩, q3, q4⟩ := st
    exact fp5 (p := fun c => ∃ o, h.get? c = some o ∧ ∀ v, o.data ≠ .cell v) hc ⟨_, q0, fun _ e => nomatch e⟩ ⟨_, q1, fun _ e => nomatch e⟩ ⟨_, q2, fun _ e => nomatch e⟩ q3.ob q4.ob
  keep := fun i h h1 st k => by
    obtain ⟨q0, q1, ⟨x, y, q2⟩, q3, q4⟩ := st
    exact ⟨k z (by simp) _ q0, k TI (by simp) _ q1, ⟨x, y, k TO (by simp) _ q2⟩, q3.at (k i1 (by simp)), q4.at (k i2 (by simp))⟩
  item := by
    intro X hP hw hK hcalm i pins sh σ H E I hf st hgo
    subst hP hw hK
    obtain ⟨q0, q1, ⟨x0, y0, q2⟩, q3, q4⟩ := st
    obtain ⟨xs, ys, x, y, ⟨hxs, hx⟩, hys, hy⟩ := hgo
    obtain ⟨us, r1, p1⟩ := hxs.laid I
    obtain ⟨vs, r2, p2⟩ := hys.laid I
    obtain ⟨u, hu, ru⟩ := r1.get hx
    obtain ⟨v, hv, rv⟩ := r2.get hy
    have lz : z < sh.heap.objs.size := Heap.lt_size q0
    have iu : i < us.toArray.size := by
      rw [List.size_toArray]
      exact (List.getElem?_eq_some_iff.mp hu).1
    have iv : i < vs.toArray.size := by
      rw [List.size_toArray]
      exact (List.getElem?_eq_some_iff.mp hv).1
    refine wpAny_pyNext_zipD2_item S (drawsB s (A := X.A.in1) (I.ok.hd hcalm) i1 a n1 us.toArray) (drawsB t (A := X.A.in1) (I.ok.hd hcalm) i2 b n2 vs.toArray) q0 q1 q2 ⟨q3, p1⟩ ⟨q4, p2⟩ iu iv fun u' v' h1 tk eu ev z1 T1 s1 s2 nT sz k => ?_
    have eu : u' = u := by
      have e : us[i]? = some u' := by simpa using eu
      rw [hu] at e
      exact (Option.some.inj e).symm
    have ev : v' = v := by
      have e : vs[i]? = some v' := by simpa using ev
      rw [hv] at e
      exact (Option.some.inj e).symm
    subst eu ev
    refine ⟨_, rfl, wpAny_letOwnedTupleGo_zip (s := { sh with heap := h1, toks := tk }) z1 fun h2 z2 sb => ?_⟩
    have nT2 : h2.get? sh.heap.objs.size = some { cls := .type "tuple", data := .seq #[u', v'] } := (sb.2 _ (Nat.ne_of_gt lz)).trans nT
    have new : ObjOk X.prog X.w (upd H sh.heap.objs.size (.tup [x, y])) h2 sh.heap.objs.size (.tup [x, y]) :=
      ⟨by show 2 ≤ sizeLine; decide, [u', v'], .cons ru (.cons rv .nil), ⟨_, nT2, rfl, _, rfl⟩⟩
    have kk : ∀ c o, c ∉ [z, TI, TO, i1, i2] → sh.heap.get? c = some o → h2.get? c = some o := fun c o hc e =>
      (sb.2 c fun z => hc (by simp [z])).trans (k c o (fun z => hc (by simp [z])) (fun z => hc (by simp [z])) (fun z => hc (by simp [z])) (fun z => hc (by simp [z])) e)
    have I2 : Inv X pins σ (upd H sh.heap.objs.size (.tup [x, y])) { sh with heap := h2, toks := tk } := I.turnedNew (ch := [z, TI, TO, i1, i2]) kk hf (Nat.le_refl _) new
    have old : ∀ c o, sh.heap.get? c = some o → c ≠ sh.heap.objs.size := fun c o e => Nat.ne_of_lt (Heap.lt_size e)
    refine ⟨.ref sh.heap.objs.size, _, I2, rfl, ⟨_, x, y, rfl, I.hok.fresh (Nat.le_refl _), rfl, fun l hl => by rw [hl.inj I hxs]; exact hx, fun l hl => by rw [hl.inj I hys]; exact hy⟩, ⟨z2, ?_, ⟨u', v', ?_⟩, ?_, ?_⟩, fun c hc => ?_⟩
    · exact (sb.2 _ S.TIz).trans (k _ _ S.TIz S.TITO S.TIi1 S.TIi2 q1)
    · exact (sb.2 _ S.TOz).trans T1
    · exact s1.1.at fun o e => (sb.2 i1 S.zi1.symm).trans e
    · exact s2.1.at fun o e => (sb.2 i2 S.zi2.symm).trans e
    · have ne : c ≠ sh.heap.objs.size := fp5 (p := fun c => c ≠ sh.heap.objs.size) hc (old _ _ q0) (old _ _ q1) (old _ _ q2) (by obtain ⟨o, e, _⟩ := q3.ob; exact old _ _ e) (by obtain ⟨o, e, _⟩ := q4.ob; exact old _ _ e)
      rw [upd_ne ne]
      exact (hf c hc).1
  done := by
    intro X hP hw hK hcalm i pins sh σ H E I hf st hstop
    subst hP hw hK
    obtain ⟨q0, q1, ⟨x0, y0, q2⟩, q3, q4⟩ := st
    obtain ⟨xs, ys, ⟨hxs, hys⟩, l1, l2, he⟩ := hstop
    obtain ⟨us, r1, p1⟩ := hxs.laid I
    obtain ⟨vs, r2, p2⟩ := hys.laid I
    have e1 : us.toArray.size = xs.length := by rw [List.size_toArray, r1.length]
    have e2 : vs.toArray.size = ys.length := by rw [List.size_toArray, r2.length]
    refine wpAny_pyNext_zipD2_end S (drawsB s (A := X.A.in1) (I.ok.hd hcalm) i1 a n1 us.toArray) (drawsB t (A := X.A.in1) (I.ok.hd hcalm) i2 b n2 vs.toArray) q0 q1 q2 ⟨q3, p1⟩ ⟨q4, p2⟩ (by omega) (by omega) (by omega) fun h1 tk k => ?_
    exact ⟨rfl, I.turnedL (ch := [z, TI, TO, i1, i2]) (fun c o hc e => k c o (fun z => hc (by simp [z])) (fun z => hc (by simp [z])) (fun z => hc (by simp [z])) (fun z => hc (by simp [z])) e) hf⟩
  self := fun A i sh Q E st h => wpAny_pyIter_zip st.1 h
/-- zip(e, e2), the kinds of both told -/
def iZipM (s t : Bool) (K : PySem.W.Frag) (ta : TA) : TI := fun σ H R => ta σ H fun vs H1 => ∃ a b xs ys, vs = [.ref a, .ref b] ∧ SqB s K H1 a xs ∧ SqB t K H1 b ys ∧ R (Itm s t K a b) H1
theorem pi_zipM {X : Cx} {e e2 : Expr} {ta : TA} {p pos tpos : Pos} {elts : List Expr} {kk : Nat} (s t : Bool) (hg : Gl X "zip") (hm : X.mg "zip" = none) (ha : PA X [e, e2] ta)
    (hs : starEach [e, e2] X.env = (false, eval e X.env) :: starEach [e2] X.env := by rfl) (hpl : (backTo pos (starEach [e2] X.env)).any (·.1) = false := by rfl) :
    PI X (.Tuple elts kk tpos) (.Call (.Name "zip" p) [e, e2] [] pos) (iZipM s t X.K ta) := by
  refine ⟨fun pins sh σ H R I h => ?_⟩
  refine Call_ (ld_blt I hg hm PyProof.Rows.boot_zip (PyProof.Rows.callWith_type1 (thn (ha.run pos pins sh σ H _ I h) fun us s1 ⟨vs, H1, I1, rr, a, b, xs, ys, ex, hx, hy, q⟩ => ?_) hs hpl))
  subst ex
  obtain ⟨u1, u2, rfl, ra, rb⟩ := vals2 rr
  cases ra
  cases rb
  obtain ⟨us, r1, p1⟩ := hx.laid I1
  obtain ⟨ws, r2, p2⟩ := hy.laid I1
  have la : @LT.lt Nat _ a s1.heap.objs.size := p1.lt
  have lb : @LT.lt Nat _ b s1.heap.objs.size := p2.lt
  refine zip_begins2 (beginsB s a us.toArray) (beginsB t b ws.toArray) p1 p2 fun h1 z0 z1 z2 g1 g2 sz k => wpAny_pyIter_zip z0 ?_
  have I2 : Inv X pins σ H1 { s1 with heap := h1 } := I1.kept (t' := s1.toks) k
  have S : ZipSep2 (s1.heap.objs.size + 4) (s1.heap.objs.size + 2) (s1.heap.objs.size + 3) s1.heap.objs.size (s1.heap.objs.size + 1) [s1.heap.objs.size, a] [s1.heap.objs.size + 1, b] := by
    constructor <;> first | (refine PySem.W.neN ?_; omega) | exact List.mem_cons_self | (refine nm2 ?_ ?_ <;> refine PySem.W.neN ?_ <;> omega)
  refine ⟨s1.heap.objs.size + 4, _, _, _, H1, rfl, I2, turn_zipM s t S (Nat.ne_of_lt la) (Nat.ne_of_lt (Nat.lt_succ_of_lt lb)), ⟨z0, z1, ⟨_, _, z2⟩, itB_new g1, itB_new g2⟩, fun c hc => ?_, q⟩
  have le : s1.heap.objs.size ≤ c := fp5 (p := fun c => s1.heap.objs.size ≤ c) hc (Nat.le_add_right _ _) (Nat.le_add_right _ _) (Nat.le_add_right _ _) (Nat.le_refl _) (Nat.le_add_right _ _)
  exact I1.fpOk le (I1.hok.fresh le)
/-! loops and comprehensions over it -/
def ForZ (s t : Bool) (K : PySem.W.Frag) (a b : Addr) := ForJ (Itm s t K a b)
def LcZ (s t : Bool) (K : PySem.W.Frag) (a b : Addr) := LcJ (Itm s t K a b)
section
variable {K : PySem.W.Frag} {s t : Bool} {a b : Addr} {xs ys : List V} {g : TG} {tb : TS} {D : Ends} {σ : L2.St} {H : Hp} {ta : TA} {tt : TT} {te : TE} {vs : List Nat} {Q : VK}
theorem rd_forZ : tFor (iZipM s t K ta) g tb D σ H = ta σ H fun us H1 => ∃ a b xs ys, us = [.ref a, .ref b] ∧ SqB s K H1 a xs ∧ SqB t K H1 b ys ∧ ForZ s t K a b g tb D σ H1 := rfl
theorem rd_lcZ : tLc (iZipM s t K ta) g tt te vs σ H Q = ta σ H fun us H1 => ∃ a b xs ys, us = [.ref a, .ref b] ∧ SqB s K H1 a xs ∧ SqB t K H1 b ys ∧ LcZ s t K a b g tt te vs σ H1 Q := rfl
theorem itm_go {i : Nat} (hx : SqB s K H a xs) (hy : SqB t K H b ys) (h1 : i < xs.length) (h2 : i < ys.length) : (Itm s t K a b).go i H := ⟨xs, ys, _, _, ⟨hx, List.getElem?_eq_getElem h1⟩, hy, List.getElem?_eq_getElem h2⟩
theorem ForZ.w {n : Nat} (hn : n = min xs.length ys.length) (Pw : Nat → L2.St → Hp → Prop) (h0 : Pw 0 σ H) (hl : ∀ i σ H, i ≤ n → Pw i σ H → SqB s K H a xs ∧ SqB t K H b ys)
    (hs : ∀ (i : Nat) (x y : V) (T : Addr) σ H, xs[i]? = some x → ys[i]? = some y → Pw i σ H → H T = none → ∀ N : L2.St → Hp → Prop, (∀ σ' H', Pw (i + 1) σ' H' → N σ' H') → g (.ref T) σ (upd H T (.tup [x, y])) fun σ2 H2 => tb { D with nx := N, ct := N, bk := D.nx } σ2 H2)
    (hd : ∀ σ H, Pw n σ H → D.nx σ H) : ForZ s t K a b g tb D σ H := by
  refine ⟨fun i m σ H => m = n - i ∧ i ≤ n ∧ Pw i σ H, ⟨_, rfl, Nat.zero_le _, h0⟩, ?_⟩
  rintro i m σ H ⟨rfl, hi, p⟩
  obtain ⟨qx, qy⟩ := hl i σ H hi p
  rcases Nat.lt_or_ge i n with c | c
  · refine .inr ⟨itm_go qx qy (by omega) (by omega), Pw (i + 1), fun σ' H' p' => ⟨n - (i + 1), by omega, rfl, c, p'⟩, fun v H' y => ?_⟩
    obtain ⟨T, x, y, rfl, hT, rfl, f1, f2⟩ := y
    exact hs i x y T σ H (f1 xs qx) (f2 ys qy) p hT _ fun _ _ h => h
  · have e : i = n := by omega
    subst e
    exact .inl ⟨⟨xs, ys, ⟨qx, qy⟩, by omega, by omega, by omega⟩, hd σ H p⟩
/-- a comprehension over zip, by what holds beside the list that is made -/
theorem LcZ.i {n : Nat} (hn : n = min xs.length ys.length) (I : Nat → List V → Hp → Prop) (hi : ∀ i zs, Ind H (I i zs)) (h0 : ∀ H1, Same H H1 → I 0 [] H1) (hl : ∀ i zs H1, I i zs H1 → SqB s K H1 a xs ∧ SqB t K H1 b ys) (hz : ∀ i zs H1, I i zs H1 → zs.length < sizeLine)
    (hs : ∀ (i : Nat) (x y : V), xs[i]? = some x → ys[i]? = some y → ∀ zs H1 T, I i zs H1 → H1 T = none → ∀ (M : VK) (S : Hp → Prop), (∀ v H2, Kn H H1 H2 → I (i + 1) (zs ++ [v]) H2 → M v H2) → (∀ H2, Kn H H1 H2 → I (i + 1) zs H2 → S H2) →
      g (.ref T) (wipe σ vs) (upd H1 T (.tup [x, y])) fun σ2 H2 => wipe σ2 vs = wipe σ vs ∧ tt σ2 H2 fun b H3 => if b = true then te σ2 H3 M else S H3)
    (hd : ∀ D zs H', H D = none → I n zs H' → H' D = some (.lst zs) → Q (.ref D) H') : LcZ s t K a b g tt te vs σ H Q := by
  intro D hD
  refine ⟨fun i m H1 => m = n - i ∧ i ≤ n ∧ ∃ zs, I i zs H1 ∧ H1 D = some (.lst zs), ⟨_, rfl, Nat.zero_le _, [], h0 _ (same_upd hD), upd_same⟩, ?_⟩
  rintro i m H1 ⟨rfl, hin, zs, p, hz1⟩
  obtain ⟨qx, qy⟩ := hl i zs H1 p
  rcases Nat.lt_or_ge i n with c | c
  · refine .inr ⟨itm_go qx qy (by omega) (by omega), fun H' => ∃ zs, I (i + 1) zs H' ∧ H' D = some (.lst zs), fun H' p' => ⟨n - (i + 1), by omega, rfl, c, p'⟩, fun v H' y => ?_⟩
    obtain ⟨T, x, y, rfl, hT, rfl, f1, f2⟩ := y
    exact hs i x y (f1 xs qx) (f2 ys qy) zs H1 T p hT (fun y H4 => ∃ acc, H4 D = some (.lst acc) ∧ acc.length < sizeLine ∧ ∃ zs, I (i + 1) zs (upd H4 D (.lst (acc ++ [y]))) ∧ (upd H4 D (.lst (acc ++ [y]))) D = some (.lst zs)) _
      (fun v H2 k q => ⟨zs, k D zs hD hz1, hz _ _ _ p, zs ++ [v], hi _ _ H2 D zs _ q hD (k D zs hD hz1), upd_same⟩) (fun H2 k q => ⟨zs, q, k D zs hD hz1⟩)
  · have e : i = n := by omega
    subst e
    exact .inl ⟨⟨xs, ys, ⟨qx, qy⟩, by omega, by omega, by omega⟩, hd D zs H1 hD p hz1⟩
/-- the items are told -/
theorem LcZ.p {n : Nat} (hn : n = min xs.length ys.length) (y : Nat → Option V) (hm : n ≤ 10000000) (hx : ∀ H1, Same H H1 → SqB s K H1 a xs ∧ SqB t K H1 b ys)
    (hs : ∀ (i : Nat) (x x' : V), xs[i]? = some x → ys[i]? = some x' → ∀ H1 T, Same H H1 → H1 T = some (.tup [x, x']) → ∀ (M : VK) (S : Hp → Prop), (∀ v H2, y i = some v → Same H1 H2 → M v H2) → (∀ H2, y i = none → Same H1 H2 → S H2) →
      g (.ref T) (wipe σ vs) H1 fun σ2 H2 => wipe σ2 vs = wipe σ vs ∧ tt σ2 H2 fun b H3 => if b = true then te σ2 H3 M else S H3)
    (hd : ∀ D H', H D = none → Same H H' → H' D = some (.lst ((List.range n).filterMap y)) → Q (.ref D) H') : LcZ s t K a b g tt te vs σ H Q := by
  refine LcZ.i hn (pureI H n y) pureI.ind (fun H1 s => ⟨s, rfl, Nat.zero_le _⟩) (fun i zs H1 p => hx H1 p.1) (pureI.z hm) ?_ (fun D zs H' nD p e => hd D H' nD p.1 (by rw [← p.2.1]; exact e))
  rintro i x x' h1 h2 zs H1 T ⟨s1, rfl, _⟩ nT M S hM hS
  have sT := same_upd (o := HO.tup [x, x']) nT
  have i1 := (List.getElem?_eq_some_iff.mp h1).1
  have i2 := (List.getElem?_eq_some_iff.mp h2).1
  refine hs i x x' h1 h2 _ T (s1.trans sT) upd_same M S (fun v H2 e s2 => hM v H2 (.same (sT.trans s2)) ⟨(s1.trans sT).trans s2, ?_, by omega⟩) (fun H2 e s2 => hS H2 (.same (sT.trans s2)) ⟨(s1.trans sT).trans s2, ?_, by omega⟩)
  · rw [List.range_succ, List.filterMap_append, List.filterMap_cons, e]
    rfl
  · rw [List.range_succ, List.filterMap_append, List.filterMap_cons, e, List.filterMap_nil, List.append_nil]
end
end CB
/-! set(..) of a list of ints, sorted -/
namespace CB
open PySem PySem.Spec PyProof.Rows L2
section
variable {P : Program} {w : World} {A : Around} {E : Value → Shared → Prop} {s : Shared}
/-- the new set, empty -/
abbrev eset (w : World) : Obj := ⟨.type "set", none, .set #[] 0 (.fresh 0 0 (!w.params.followText "set-order")), #[]⟩
abbrev hp1 (w : World) (s : Shared) : Heap := s.heap.push (eset w)
theorem set_of_list {l : Addr} {us : Array Value} (ns : List Int) {Q : Value → Shared → Prop} (nh : A.handled = none) (il : s.heap.IsList l us) (ui : IntsAre us.toList ns) (few : ns.length + 1 < scanBound)
    (q : ∀ (h' : Heap) (t c : Nat), SetR w h' s.heap.objs.size (fun j => decide (j ∈ ns)) c → c ≤ ns.length → (∀ b o, s.heap.get? b = some o → h'.get? b = some o) → Q (.ref s.heap.objs.size) { s with heap := h', toks := t }) :
    wpAny (model P w) A (call (.type "set") [.ref l]) Q E s := by
  have us_ns : us.size = ns.length := by
    have e := IntsAre.length ui
    rwa [Array.length_toList] at e
  obtain ⟨c, tl, mro⟩ := F.called_set.mro
  have made := F.called_set.made
  have sub := F.called_set.sub
  have notT := F.called_set.notType
  have canC := F.called_set.canCreate
  have chk := F.typeCall_set_1 (.ref l)
  refine wpAny_call (codeAny_of_tree (show wpAny _ _ (callAny (.type "set") _) _ _ _ from ?_))
  refine wpAny_pure ⟨Code.quiet_builtin _ (by decide +kernel), codeAny_builtin F.entry_type_call ?_⟩
  rw [Around.under_plain (weight_type_call_type "set" [.ref l] []) rfl]
  repeat (any_goals (first | assumption | wp_step))
  refine codeAny_mono (code_set_led1 (w := w) (.ref l) (E := E) (Q₁ := fun ob t => ob = .ref s.heap.objs.size ∧ t = { s with heap := hp1 w s }) ⟨rfl, rfl⟩) fun r t ht => ?_
  match r, ht with
  | .error e, ht => exact ht
  | .ok .next, ht => exact ht.elim
  | .ok .brk, ht => exact ht.elim
  | .ok .cont, ht => exact ht.elim
  | .ok (.ret ob), ht =>
    obtain ⟨rfl, rfl⟩ := ht
    have at1 : (hp1 w s).get? s.heap.objs.size = some (eset w) := Heap.get?_push_size _ rfl
    have ty1 : Shared.TypeIs { s with heap := hp1 w s } (.ref s.heap.objs.size) "set" := ⟨_, at1, rfl⟩
    have look := F.called_set.init.lookup
    have bind := F.called_set.init.bind (.ref s.heap.objs.size)
    repeat (any_goals (first | assumption | wp_step))
    refine codeAny_mono (codeAny_call_builtin (R := wants (fun x t => x = .none ∧ ∃ (h' : Heap) (tk c : Nat), t = { s with heap := h', toks := tk } ∧ (SetR w h' s.heap.objs.size (fun j => decide (j ∈ ns)) c ∧ c ≤ ns.length) ∧ ∀ b o, s.heap.get? b = some o → h'.get? b = some o) E)
      F.called_set.init.plain F.entry_set_init (check_set_init_1 ty1 ?_)) fun r2 t2 ht2 => ?_
    · obtain ⟨⟨oc, od, oa, osl⟩, g0, rfl, nl, rfl⟩ := il
      have g1 : (hp1 w s).get? l = some ⟨.type "list", od, .seq us nl, osl⟩ := Heap.get?_push_of_some _ g0
      have s1 := F.sub_list_set
      have s2 := F.sub_list_frozenset
      have nd : (Value.type "list" == Value.type "dict") = false := by decide
      have il1 : (hp1 w s).IsList l us := ⟨_, g1, rfl, nl, rfl⟩
      unfold Builtin.«set.__init__» noKeywords Builtin.Frozenset.updateFrom
      generalize iterator : pyIter = IT
      wp_walk
      subst iterator
      refine wpAny_pyIter_list il1 (wpAny_bind (wpAny_runValue ?_))
      have l0 : l < s.heap.objs.size := Heap.lt_size g0
      have z1 : (hp1 w s).objs.size = s.heap.objs.size + 1 := Heap.size_push ..
      have n1 : l ≠ (hp1 w s).objs.size := fun e => Nat.ne_of_lt (Nat.lt_succ_of_lt l0) (Eq.trans e z1)
      have n2 : s.heap.objs.size ∉ [(hp1 w s).objs.size, l] := fun z => by
        rcases List.mem_cons.mp z with z | z
        · exact Nat.ne_of_lt (Nat.lt_succ_self _) (Eq.trans z z1)
        · exact Nat.ne_of_lt l0 (List.mem_singleton.mp z).symm
      have told : ∀ (i : Nat) (v : Value), us[i]? = some v → ∃ k t, ns[i]? = some k ∧ v = .int k t := fun i v hv => by
        have hi : i < ns.length := us_ns ▸ (Array.getElem?_eq_some_iff.mp hv).1
        obtain ⟨t, e⟩ := PyProof.Rows.IntsAre.int_at ui i v (by rwa [Array.getElem?_toList])
        refine ⟨ns[i], t, List.getElem?_eq_getElem hi, e.trans ?_⟩
        rw [List.getD_eq_getElem?_getD, List.getElem?_eq_getElem hi]
        rfl
      refine set_update_ints (w := w) (Walks.list (by simp [nh]) _ l n1 us).toS s.heap.objs.size n2 ns us_ns few told us.size 0 _ (Nat.sub_zero _) (Nat.zero_le _) ⟨⟨_, Heap.get?_push_size _ rfl, rfl, rfl⟩, il1.push _⟩ ⟨0, Nat.le_refl 0, ?_⟩ ?_
      · exact setR_new_at (Heap.get?_push_of_some _ at1)
      · intro ⟨h', g', d', t', o'⟩ c' mv hc hS
        obtain rfl : g' = s.gens := mv.gens
        obtain rfl : d' = s.drawn := mv.drawn
        obtain rfl : o' = s.os := mv.os
        refine wpAny_pure (show wpAny _ _ (ret Value.none) _ _ _ from wpAny_pure ⟨rfl, h', t', c', rfl, ⟨hS, by omega⟩, fun b o e => ?_⟩)
        have b0 : b < s.heap.objs.size := Heap.lt_size e
        refine mv.heap b o (fun z => ?_) (Heap.get?_push_of_some _ (Heap.get?_push_of_some _ e))
        rcases List.mem_cons.mp z with z | z
        · exact Nat.ne_of_lt b0 z
        · exact Nat.ne_of_lt (Nat.lt_succ_of_lt b0) (Eq.trans (List.mem_singleton.mp z) z1)
    · match r2, ht2 with
      | .error e, ht2 => exact ht2
      | .ok .next, ht2 => exact ht2.elim
      | .ok .brk, ht2 => exact ht2.elim
      | .ok .cont, ht2 => exact ht2.elim
      | .ok (.ret x), ht2 =>
        obtain ⟨rfl, h', tk, c', rfl, ⟨hS, hc⟩, kept⟩ := ht2
        repeat (any_goals (first | assumption | wp_step))
        exact q _ _ _ hS hc kept
end
section
variable {X : Cx}
/-- set(xs) of a list of ints -/
def rSetL1 (K : PySem.W.Frag) (w : World) : List V → Hp → VK → Prop := fun xs H Q => ∃ (a : Addr) (ns : List Int), xs = [V.ref a] ∧ SqL K H a (ns.map V.int) ∧ ns.length ≤ 1000 ∧
  ∀ p c, H p = none → c ≤ ns.length → Q (.ref p) (upd H p (SetO w p (fun j => decide (j ∈ ns)) c))
theorem cr_setL1 (hc : X.calm = true) : CallR X (.type "set") (rSetL1 X.K X.w) := by
  intro pins s σ H xs us Q I r h
  obtain ⟨a, ns, rfl, hs, few, q⟩ := h
  obtain ⟨its, rv, il, _⟩ := I.list hs
  rw [Vals.ref1 r]
  refine set_of_list ns (I.ok.hd hc) il.isList rv.ints (by unfold scanBound; omega) fun h' t c R hcn kept => ?_
  exact ⟨.ref _, _, I.laid (t' := t) kept (Nat.le_refl _) (setO_new R), rfl, q _ c (I.hok.fresh (Nat.le_refl _)) hcn⟩
theorem cr_setL1w {w : World} (hw : X.w = w) (hc : X.calm = true) : CallR X (.type "set") (rSetL1 X.K w) := by
  subst hw
  exact cr_setL1 hc
theorem cr_sortedSetw {w : World} (hw : X.w = w) (hc : X.calm = true) : CallR X (.builtin "sorted") (rSortedSet w) := by
  subst hw
  exact cr_sortedSet hc
theorem rd_setL1 {K : PySem.W.Frag} {w : World} {xs : List V} {H : Hp} {Q : VK} : rSetL1 K w xs H Q = ∃ (a : Addr) (ns : List Int), xs = [V.ref a] ∧ SqL K H a (ns.map V.int) ∧ ns.length ≤ 1000 ∧
  ∀ p c, H p = none → c ≤ ns.length → Q (.ref p) (upd H p (SetO w p (fun j => decide (j ∈ ns)) c)) := rfl
theorem rd_sortedSet {w : World} {xs : List V} {H : Hp} {Q : VK} : rSortedSet w xs H Q = ∃ (a : Addr) (S : Int → Bool) (n : Nat), xs = [V.ref a] ∧ H a = some (SetO w a S n) ∧ n < 64 ∧
  ∀ (ns : List Int) (p : Addr), ns.Pairwise (· < ·) → (∀ k : Int, k ∈ ns ↔ S k = true) → ns.length = n → H p = none → Q (.ref p) (upd H p (.lst (ns.map V.int))) := rfl
end
end CB
namespace CB
open PySem PySem.Spec PyProof.Rows L2
/-! ### tuple * int, any number of times -/
theorem mul_same (l : Addr) (us : Array Value) (n : Nat) (dd : Option Addr) (sl : Array (Option Value)) (u : Tok) :
    Meets (Builtin.«tuple.__mul__» ⟨[.ref l, .int 1 u], []⟩) (fun _ R s => s.heap.get? l = some ⟨.type "tuple", dd, .seq us n, sl⟩ ∧ R (.ok (.ret (.ref l))) s) :=
  .of_wp fun prog w A R s h => by
    obtain ⟨hp, g, d, tk, os⟩ := s
    obtain ⟨hl, h⟩ := h
    have ix := AutoSeq1.idx_int
    have b1 : (decide ((1 : Int) < -(2 ^ 63)) || decide ((1 : Int) ≥ 2 ^ 63)) = false := by decide
    have b2 : (us.isEmpty || (1 : Int) == 1) = true := by rw [show ((1 : Int) == 1) = true from rfl, Bool.or_true]
    wp_walk using wpAny_loadPart' hl
    exact ⟨_, rfl, h⟩
theorem mul_none (l : Addr) (us : Array Value) (n : Nat) (dd : Option Addr) (sl : Array (Option Value)) (u : Tok) (ne : us.isEmpty = false) :
    Meets (Builtin.«tuple.__mul__» ⟨[.ref l, .int 0 u], []⟩) (fun _ R s => s.heap.get? l = some ⟨.type "tuple", dd, .seq us n, sl⟩ ∧ R (.ok (.ret (.ref s.heap.objs.size))) { s with heap := s.heap.push { cls := .type "tuple", data := .seq #[] } }) :=
  .of_wp fun prog w A R s h => by
    obtain ⟨hp, g, d, tk, os⟩ := s
    obtain ⟨hl, h⟩ := h
    have ix := AutoSeq1.idx_int
    have b2 : (us.isEmpty || (0 : Int) == 1) = false := by rw [ne]; rfl
    wp_walk using wpAny_loadPart' hl
    exact ⟨_, rfl, h⟩
/-- a tuple that a statement made, k times: for one it is the same tuple -/
def rRepA : R2 := fun x y H Q => ∃ (l : Addr) (k : Nat) (xs : List V), x = .ref l ∧ y = .int k ∧ H l = some (.tup xs) ∧ xs ≠ [] ∧ k ≤ 1000 ∧ xs.length ≤ 1000 ∧
  ∀ p H', Same H H' → H' p = some (.tup (List.replicate k xs).flatten) → Q (.ref p) H'
theorem op_repA {X : Cx} : OpR X (binaryOp .Mult) rRepA := by
  intro pins s σ H x y v u Q I rx ry h
  obtain ⟨l, k, xs, rfl, rfl, hT, hne, k1, hz, q⟩ := h
  by_cases c2 : 2 ≤ k
  · exact op_repT pins s σ H _ _ v u Q I rx ry ⟨l, k, xs, rfl, rfl, SqT.of hT, hne, by omega, by omega, hz, fun p np => q p _ (same_upd np) (by rw [upd_same, Int.toNat_natCast])⟩
  cases rx
  obtain ⟨t, rfl⟩ := ry
  obtain ⟨its, r, ⟨⟨cls, dd, data, sl⟩, ho, hc, n, hd⟩, hs⟩ := I.tuple (SqT.of hT)
  simp only at hc hd
  subst hc hd
  have ne : its.toArray.isEmpty = false := by
    cases its with
    | cons a b => rfl
    | nil => exact absurd (List.eq_nil_of_length_eq_zero r.length) hne
  have k01 : k = 1 ∨ k = 0 := by omega
  rcases k01 with rfl | rfl
  · refine wpAny_binaryOp_repeat_ref (T := "tuple") (U := "int") (by decide) ⟨_, ho, rfl⟩
      (fun s' => typeIs_int s' 1 t) noFill_tuple_mul F.fills_int_mul F.slot_int_rmul
      repeat_tuple F.slot_int_index.lookup (call_meets F.slot_int_rmul (typeIs_int s 1 t)
        F.entry_int_rmul (F.args_int_rmul_2 _ _) (int_rmul_tuple 1 t l its.toArray n dd sl)
        ⟨ho, rfl, ⟨_, ho, rfl⟩, call_meets F.slot_tuple_mul ⟨_, ho, rfl⟩ F.entry_tuple_mul
          (F.args_tuple_mul_2 _ _) (mul_same l its.toArray n dd sl t) ⟨ho, ?_⟩⟩)
    exact ⟨.ref l, H, I, rfl, q l H (Same.refl _) (by rw [hT, List.replicate_one, List.flatten_cons, List.flatten_nil, List.append_nil])⟩
  · refine wpAny_binaryOp_repeat_ref (T := "tuple") (U := "int") (by decide) ⟨_, ho, rfl⟩
      (fun s' => typeIs_int s' 0 t) noFill_tuple_mul F.fills_int_mul F.slot_int_rmul
      repeat_tuple F.slot_int_index.lookup (call_meets F.slot_int_rmul (typeIs_int s 0 t)
        F.entry_int_rmul (F.args_int_rmul_2 _ _) (int_rmul_tuple 0 t l its.toArray n dd sl)
        ⟨ho, rfl, ⟨_, ho, rfl⟩, call_meets F.slot_tuple_mul ⟨_, ho, rfl⟩ F.entry_tuple_mul
          (F.args_tuple_mul_2 _ _) (mul_none l its.toArray n dd sl t ne) ⟨ho, ?_⟩⟩)
    refine ⟨.ref s.heap.objs.size, upd H s.heap.objs.size (.tup []), I.laid (t' := s.toks) (fun b ob e => Heap.get?_push_of_some _ e) (Nat.le_refl _) ?_, rfl, q _ _ (same_upd (I.hok.fresh (Nat.le_refl _))) (by rw [upd_same]; rfl)⟩
    exact ⟨Nat.zero_le _, _, .nil, IsTup.new _ _⟩
theorem rd_repA {x y : V} {H : Hp} {Q : VK} : rRepA x y H Q = ∃ (l : Addr) (k : Nat) (xs : List V), x = .ref l ∧ y = .int k ∧ H l = some (.tup xs) ∧ xs ≠ [] ∧ k ≤ 1000 ∧ xs.length ≤ 1000 ∧
  ∀ p H', Same H H' → H' p = some (.tup (List.replicate k xs).flatten) → Q (.ref p) H' := rfl
end CB
/-! a dict of ints, by ints, that a module's name holds (own work) -/
namespace CB
open PySem PySem.Spec PyProof.Rows L2
def EntI : List DictEntry → List (Int × Int) → Prop
  | [], [] => True
  | e :: es, q :: kvs => (∃ t, e.key = .int q.1 t) ∧ e.hash = hashInt q.1 ∧ (∃ t, e.val = .int q.2 t) ∧ EntI es kvs
  | _, _ => False
def lkI (kvs : List (Int × Int)) (k : Int) : Option Int := (kvs.find? fun q => decide (q.1 = k)).map (·.2)
theorem EntI.keys : ∀ {es : List DictEntry} {kvs : List (Int × Int)}, EntI es kvs → ∀ e ∈ es, ∃ k t, e.key = .int k t ∧ e.hash = hashInt k
  | [], [], _, e, he => by simp at he
  | e0 :: es, q :: kvs, ⟨⟨t, h1⟩, h2, _, r⟩, e, he => by
    rcases List.mem_cons.mp he with rfl | he
    · exact ⟨_, t, h1, h2⟩
    · exact r.keys e he
theorem EntI.find (k : Int) : ∀ {es : List DictEntry} {kvs : List (Int × Int)}, EntI es kvs → match lkI kvs k with
    | some v => ∃ t, (es.find? fun d => Value.isInt k d.key).map (·.val) = some (.int v t)
    | none => (es.find? fun d => Value.isInt k d.key).map (·.val) = none
  | [], [], _ => rfl
  | e0 :: es, q :: kvs, ⟨⟨t, h1⟩, h2, ⟨u, h3⟩, r⟩ => by
    have ih := EntI.find k r
    unfold lkI at ih ⊢
    rw [List.find?_cons, List.find?_cons]
    by_cases c : q.1 = k
    · have e1 : Value.isInt k e0.key = true := by rw [h1]; simp [Value.isInt, c]
      rw [e1, decide_eq_true c]
      exact ⟨u, by rw [← h3]; rfl⟩
    · have e1 : Value.isInt k e0.key = false := by rw [h1]; simp [Value.isInt, c]
      rw [e1, decide_eq_false c]
      exact ih
/-- at d stands such a dict -/
def DcA (K : PySem.W.Frag) (d : Addr) (kvs : List (Int × Int)) : Prop := ∃ (es : Array DictEntry) (n : Nat), K.lookup d = some ⟨.type "dict", none, .dict es n, #[]⟩ ∧ (d == sysModules) = false ∧ EntI es.toList kvs
abbrev DC (K : PySem.W.Frag) (mg : Str → Option Value) (x : Str) (kvs : List (Int × Int)) : Prop := ∃ d : Addr, mg x = some (.ref d) ∧ DcA K d kvs
theorem DcA.map {prog : Program} {w : World} {K : PySem.W.Frag} {d : Addr} {kvs : List (Int × Int)} {h : Heap} (X : K.In h) (D : DcA K d kvs) :
    ∃ f, h.MapOf (intKind prog w) d f ∧ (d == sysModules) = false ∧ ∀ k, match lkI kvs k with | some v => ∃ t, f k = some (.int v t) | none => f k = none := by
  obtain ⟨⟨es⟩, n, hl, low, he⟩ := D
  refine ⟨fun k => findBy (intKind prog w).is ⟨es⟩ k, ⟨_, ⟨es⟩, n, X _ _ hl, ⟨rfl, rfl, rfl⟩, rfl, fun e hm => ?_, fun _ => rfl⟩, low, fun k => ?_⟩
  · obtain ⟨k, t, h1, h2⟩ := he.keys e (Array.mem_toList_iff.mpr hm)
    exact ⟨k, by rw [h1]; exact intKind_is prog w k t, h2⟩
  · have := he.find k
    unfold findBy
    dsimp only
    have z : ∀ p : DictEntry → Bool, Array.find? p ⟨es⟩ = es.find? p := fun p => List.find?_toArray p es
    rw [z]
    exact this
def rIxDC (K : PySem.W.Frag) : R2 := fun x y H Q => ∃ d kvs i v, x = .ref d ∧ y = .int i ∧ DcA K d kvs ∧ lkI kvs i = some v ∧ Q (.int v) H
theorem ix_dc {X : Cx} : IxR X (rIxDC X.K) := by
  intro value slice pins s σ H x y v u Q I rx ry h hs
  obtain ⟨d, kvs, i, v0, rfl, rfl, D, e, q⟩ := h
  cases rx
  obtain ⟨t, rfl⟩ := ry
  obtain ⟨f, hm, low, hf⟩ := D.map (prog := X.prog) (w := X.w) I.kIn
  have hf := hf i
  rw [e] at hf
  obtain ⟨tk, hf⟩ := hf
  refine tail_any hm.typeIs slot_dict_getitem.lookup ?_ hs
  exact wpAny_getItem_of (intKind_is X.prog X.w i t) hm hf ⟨.int v0, H, I.tok _, ⟨_, rfl⟩, q⟩
theorem ix_dcK {X : Cx} {K : PySem.W.Frag} (h : X.K = K) : IxR X (rIxDC K) := by
  subst h
  exact ix_dc
def rInDC (K : PySem.W.Frag) (b : Bool) : R2 := fun x y H Q => ∃ d kvs i, x = .int i ∧ y = .ref d ∧ DcA K d kvs ∧ Q (.bl ((lkI kvs i).isSome != b)) H
theorem op_inDC {X : Cx} : OpR X (compareOp .In) (rInDC X.K false) := by
  intro pins s σ H x y v u Q I rx ry h
  obtain ⟨d, kvs, i, rfl, rfl, D, q⟩ := h
  cases ry
  obtain ⟨t, rfl⟩ := rx
  obtain ⟨f, hm, low, hf⟩ := D.map (prog := X.prog) (w := X.w) I.kIn
  have hf := hf i
  refine wpAny_in_of (intKind_is X.prog X.w i t) low hm ?_
  rcases e : lkI kvs i with _ | v0
  · rw [e] at hf q
    rw [hf]
    exact ⟨.bl false, H, I.tok _, rfl, q⟩
  · rw [e] at hf q
    obtain ⟨tk, hf⟩ := hf
    rw [hf]
    exact ⟨.bl true, H, I.tok _, rfl, q⟩
theorem op_notInDC {X : Cx} : OpR X (compareOp .NotIn) (rInDC X.K true) := by
  intro pins s σ H x y v u Q I rx ry h
  obtain ⟨d, kvs, i, rfl, rfl, D, q⟩ := h
  cases ry
  obtain ⟨t, rfl⟩ := rx
  obtain ⟨f, hm, low, hf⟩ := D.map (prog := X.prog) (w := X.w) I.kIn
  have hf := hf i
  refine wpAny_notIn_of (intKind_is X.prog X.w i t) low hm ?_
  rcases e : lkI kvs i with _ | v0
  · rw [e] at hf q
    rw [hf]
    exact ⟨.bl true, H, I.tok _, rfl, q⟩
  · rw [e] at hf q
    obtain ⟨tk, hf⟩ := hf
    rw [hf]
    exact ⟨.bl false, H, I.tok _, rfl, q⟩
theorem rd_ixDC {K : PySem.W.Frag} {x y : V} {H : Hp} {Q : VK} : rIxDC K x y H Q = ∃ d kvs i v, x = .ref d ∧ y = .int i ∧ DcA K d kvs ∧ lkI kvs i = some v ∧ Q (.int v) H := rfl
theorem rd_inDC {K : PySem.W.Frag} {b : Bool} {x y : V} {H : Hp} {Q : VK} : rInDC K b x y H Q = ∃ d kvs i, x = .int i ∧ y = .ref d ∧ DcA K d kvs ∧ Q (.bl ((lkI kvs i).isSome != b)) H := rfl
theorem rd_cat {x y : V} {H : Hp} {Q : VK} : rCat x y H Q = ∃ l b xs zs, x = .ref l ∧ y = .ref b ∧ H l = some (.lst xs) ∧ H b = some (.lst zs) ∧ xs.length + zs.length ≤ sizeLine ∧ ∀ p, H p = none → Q (.ref p) (upd H p (.lst (xs ++ zs))) := rfl
end CB
/-! zip(reversed(list), list) (own work) -/
namespace CB
open PySem PySem.Spec PyProof.Rows L2
section
variable {prog : Program} {w : World} {A : Around} {E : Value → Shared → Prop} {sh : Shared}
theorem nextRv_item {r l : Addr} {j : Nat} {us : Array Value} {x : Value} {Q : Value → Shared → Prop} (hr : sh.heap.IsRevIter r l (j : Int)) (hl : sh.heap.IsList l us) (hx : us[j]? = some x)
    (k : ∀ g, g.IsRevIter r l ((j : Int) - 1) → Heap.SameBut r sh.heap g → Q x { sh with heap := g }) : wpAny (model prog w) A (Builtin.SmallTypes.nextOf (.ref r)) Q E sh := by
  obtain ⟨ob, eo, hc, hd⟩ := id hr
  obtain ⟨ol, el, _, nl, dl⟩ := hl
  unfold Builtin.SmallTypes.nextOf
  refine wpAny_bind (wpAny_callSpecial?_slot (name := Str.ofString "__next__") hr.typeIs F.slot_lri_next (wpAny_call_entry F.slot_lri_next hr.typeIs F.entry_lri_next ?_ (F.args_lri_next_1 _)))
  unfold Builtin.«list_reverseiterator.__next__»
  refine wpAny_bind (wpAny_of_eq (a := (Value.ref r, [])) rfl ?_)
  dsimp only
  refine wpAny_bind (wpAny_field eo hd (x := rawInt (j : Int)) rfl ?_)
  show wpAny _ _ (if (j : Int) < 0 then _ else _) _ _ sh
  rw [if_neg (show ¬ (j : Int) < 0 by omega)]
  show wpAny _ _ (field (.ref r) 0 >>= _) _ _ sh
  refine wpAny_bind (wpAny_field eo hd (x := .ref l) rfl ?_)
  show wpAny _ _ (seqItems? (.ref l) >>= _) _ _ sh
  refine wpAny_bind (wpAny_seqItems el dl ?_)
  simp only [Int.toNat_natCast, hx]
  refine wpAny_bind (wpAny_setField eo hd (by simp) ?_)
  first
  | refine wpAny_pure ⟨x, rfl, wpAny_pure (k _ ?_ (Heap.SameBut.update ..))⟩
  | refine wpAny_bind (wpAny_pure (wpAny_pure ⟨x, rfl, wpAny_pure (k _ ?_ (Heap.SameBut.update ..))⟩))
  refine ⟨_, Heap.get?_update_self _ eo (Obj.isFreed_of_fields (Obj.data_mapFields hd _)), (Obj.cls_mapFields ..).trans hc, ?_⟩
  rw [Obj.data_mapFields hd]
  simp
theorem nextRv_end {r l : Addr} {Q : Value → Shared → Prop} (hh : A.handled = none) (hr : sh.heap.IsRevIter r l (-1))
    (k : ∀ g e, Heap.ExtBut r sh.heap g → (∃ o, g.get? e = some o ∧ o.cls = .type "StopIteration") → E (.ref e) { sh with heap := g }) : wpAny (model prog w) A (Builtin.SmallTypes.nextOf (.ref r)) Q E sh := by
  obtain ⟨ob, eo, hc, hd⟩ := id hr
  unfold Builtin.SmallTypes.nextOf
  refine wpAny_bind (wpAny_callSpecial?_slot (name := Str.ofString "__next__") hr.typeIs F.slot_lri_next (wpAny_call_entry F.slot_lri_next hr.typeIs F.entry_lri_next ?_ (F.args_lri_next_1 _)))
  unfold Builtin.«list_reverseiterator.__next__»
  refine wpAny_bind (wpAny_of_eq (a := (Value.ref r, [])) rfl ?_)
  dsimp only
  refine wpAny_bind (wpAny_field eo hd (x := rawInt (-1)) rfl ?_)
  show wpAny _ _ (if (-1 : Int) < 0 then _ else _) _ _ sh
  rw [if_pos (show (-1 : Int) < 0 by decide)]
  refine wpAny_bind (wpAny_rule ?_)
  first
  | show wpAny _ _ (newExc (.type "StopIteration") [] >>= _) _ _ sh
  | (refine wpAny_bind ?_; show wpAny _ _ (newExc (.type "StopIteration") [] >>= _) _ _ sh)
  refine wpAny_bind ?_
  simp only [newExc, newTuple]
  refine wpAny_bind (wpAny_newObj_type ?_ (by size_fits))
  refine wpAny_bind (m := firstArgMember _ _) (wpAny_of_eq (a := Value.none) (by simp only [firstArgMember]; rfl) ?_)
  refine wpAny_newObj_type ?_ (by size_fits)
  simp only [raiseNew]
  refine wpAny_bind (wpAny_handled ?_)
  first | rw [show A.in1.handled = none from hh] | rw [hh]
  refine wpAny_bind (wpAny_pure (wpAny_throw ?_))
  exact k _ _ (((Heap.ExtBut.refl _ _).push _).push _) ⟨_, Heap.get?_push_size _ rfl, rfl⟩
end
/-- the iterator's own state, i items drawn -/
def RvAt (r l : Addr) (us : Array Value) (i : Nat) (h : Heap) : Prop := (i ≤ us.size ∧ h.IsRevIter r l ((us.size : Int) - 1 - (i : Int))) ∧ h.IsList l us
theorem drawsR {prog : Program} {w : World} {A : Around} (hh : A.handled = none) (r l : Addr) (ne : l ≠ r) (us : Array Value) : Draws prog w A r [r, l] us.size (fun i v => us[us.size - 1 - i]? = some v) (RvAt r l us) where
  live := fun i h st => by
    obtain ⟨⟨_, o, e, _⟩, _⟩ := st
    exact ⟨o, e⟩
  frame := fun i h h' st k => ⟨⟨st.1.1, st.1.2.at fun o e => k r (by simp) o e⟩, st.2.at fun o e => k l (by simp) o e⟩
  item := fun i sh Q E hi st k => by
    have e1 : (us.size : Int) - 1 - (i : Int) = ((us.size - 1 - i : Nat) : Int) := by omega
    have hr := st.1.2
    rw [e1] at hr
    have hx : us[us.size - 1 - i]? = some (us[us.size - 1 - i]'(by omega)) := Array.getElem?_eq_getElem (by omega)
    refine nextRv_item hr st.2 hx fun g hg sb => ?_
    have e2 : ((us.size - 1 - i : Nat) : Int) - 1 = (us.size : Int) - 1 - ((i + 1 : Nat) : Int) := by omega
    rw [e2] at hg
    exact k _ g sh.toks hx ⟨⟨hi, hg⟩, st.2.extBut sb.extBut ne⟩ sb
  done := fun sh Q E st k => by
    have e1 : (us.size : Int) - 1 - (us.size : Int) = -1 := by omega
    have hr := st.1.2
    rw [e1] at hr
    exact nextRv_end hh hr k
/-! the start of such a zip: the second one's iterator is new -/
abbrev zrT (h : Heap) (r : Addr) (o : Obj) : Heap := (h.push o).push { cls := .type "tuple", data := .seq #[.ref r, .ref h.objs.size] }
abbrev zrO (h : Heap) (r : Addr) (o : Obj) : Heap := (zrT h r o).push { cls := .type "tuple", data := .seq #[.none, .none] }
abbrev zrZ (h : Heap) (r : Addr) (o : Obj) : Heap := (zrO h r o).push { cls := .type "zip", data := .fields #[.none, .bool false, .bool false, .ref (h.push o).objs.size, .ref (zrT h r o).objs.size] }
theorem meets_zipR {v2 : Value} {o : Obj} {Hb : Heap → Prop} {r l : Addr} {c : Int} (Bg : Begins v2 o Hb) :
    Meets (Builtin.«zip.__new__» ⟨[.type "zip", .ref r, v2], []⟩) (fun _ R sh => (sh.heap.IsRevIter r l c ∧ Hb sh.heap) ∧ R (.ok (.ret (.ref (zrO sh.heap r o).objs.size))) { sh with heap := zrZ sh.heap r o }) :=
  .of_wp fun prog w A R sh h => by
    obtain ⟨hp, g, d, tk, os⟩ := sh
    obtain ⟨⟨h1, h2⟩, h⟩ := h
    have sz := sub_zip
    have q1 : ∀ {A1 : Around} {E1 : Value → Shared → Prop} {Q1 : Value → Shared → Prop}, Q1 (.ref r) ⟨hp, g, d, tk, os⟩ → wpAny (model prog w) A1 (pyIter (.ref r)) Q1 E1 ⟨hp, g, d, tk, os⟩ := fun q => wpAny_pyIter_revIter h1 q
    have q2 : ∀ {A1 : Around} {E1 : Value → Shared → Prop} {Q1 : Value → Shared → Prop}, Q1 (.ref hp.objs.size) ⟨hp.push o, g, d, tk, os⟩ → wpAny (model prog w) A1 (pyIter v2) Q1 E1 ⟨hp, g, d, tk, os⟩ := fun q => Bg.iter prog w _ _ ⟨hp, g, d, tk, os⟩ _ h2 q
    wp_walk using q1, q2
    exact ⟨_, rfl, h⟩
theorem zipR_begins {prog : Program} {w : World} {A : Around} {E : Value → Shared → Prop} {sh : Shared} {v2 : Value} {o : Obj} {Hb : Heap → Prop} {r l : Addr} {c : Int} {Q : Value → Shared → Prop} (Bg : Begins v2 o Hb) (h1 : sh.heap.IsRevIter r l c) (h2 : Hb sh.heap)
    (k : ∀ g, IsZip g (sh.heap.objs.size + 3) (sh.heap.objs.size + 1) (sh.heap.objs.size + 2) .none → IsTupOf2 g (sh.heap.objs.size + 1) (.ref r) (.ref sh.heap.objs.size) → IsTupOf2 g (sh.heap.objs.size + 2) .none .none → g.get? sh.heap.objs.size = some o →
      (∀ b ob, sh.heap.get? b = some ob → g.get? b = some ob) → Q (.ref (sh.heap.objs.size + 3)) { sh with heap := g }) :
    wpAny (model prog w) A (call (.type "zip") [.ref r, v2]) Q E sh := by
  refine callType_new F.called_zip (by decide) (F.typeCall_zip_2 _ _) (F.newCall_zip_2 _ _) (fun ob => F.args_object_init_3 ob _ _) F.entry_zip_new (meets_zipR Bg) ⟨⟨h1, h2⟩, ?_⟩
  have z1 : (sh.heap.push o).objs.size = sh.heap.objs.size + 1 := Heap.size_push ..
  have zT : (zrT sh.heap r o).objs.size = sh.heap.objs.size + 2 := by rw [Heap.size_push, z1]
  have zO : (zrO sh.heap r o).objs.size = sh.heap.objs.size + 3 := by rw [Heap.size_push, zT]
  have gZ : (zrZ sh.heap r o).get? (zrO sh.heap r o).objs.size = some { cls := .type "zip", data := .fields #[.none, .bool false, .bool false, .ref (sh.heap.push o).objs.size, .ref (zrT sh.heap r o).objs.size] } := Heap.get?_push_size _ rfl
  have gO : (zrZ sh.heap r o).get? (zrT sh.heap r o).objs.size = some { cls := .type "tuple", data := .seq #[.none, .none] } := Heap.get?_push_of_some _ (Heap.get?_push_size _ rfl)
  have gT : (zrZ sh.heap r o).get? (sh.heap.push o).objs.size = some { cls := .type "tuple", data := .seq #[.ref r, .ref sh.heap.objs.size] } := Heap.get?_push_of_some _ (Heap.get?_push_of_some _ (Heap.get?_push_size _ rfl))
  have g2 : (zrZ sh.heap r o).get? sh.heap.objs.size = some o := Heap.get?_push_of_some _ (Heap.get?_push_of_some _ (Heap.get?_push_of_some _ (Heap.get?_push_size _ Bg.free)))
  rw [zO, zT, z1] at gZ
  rw [zT] at gO
  rw [z1] at gT
  show _ ∧ _
  rw [zO]
  exact ⟨⟨_, gZ, rfl⟩, k _ gZ gT gO g2 fun b ob e => Heap.get?_push_of_some _ (Heap.get?_push_of_some _ (Heap.get?_push_of_some _ (Heap.get?_push_of_some _ e)))⟩
/-- the items of a, n of them, from the end, those of b from the start, in new pairs -/
def Itr2 (K : PySem.W.Frag) (a b : Addr) (n : Nat) : It where
  go := fun i H => ∃ (xs ys : List V) (x y : V), (SqL K H a xs ∧ xs.length = n ∧ i < n ∧ xs[n - 1 - i]? = some x) ∧ SqL K H b ys ∧ ys[i]? = some y
  yld := fun i H v H' => ∃ T x y, v = .ref T ∧ H T = none ∧ H' = upd H T (.tup [x, y]) ∧ (∀ xs, SqL K H a xs → xs[n - 1 - i]? = some x) ∧ (∀ ys, SqL K H b ys → ys[i]? = some y)
  stop := fun i H => ∃ xs ys : List V, (SqL K H a xs ∧ SqL K H b ys) ∧ xs.length = n ∧ i ≤ n ∧ i ≤ ys.length ∧ (i = n ∨ i = ys.length)
def ZpR (a b z TI TO i1 i2 : Addr) (n : Nat) (i : Nat) (h : Heap) : Prop :=
  IsZip h z TI TO .none ∧ IsTupOf2 h TI (.ref i1) (.ref i2) ∧ (∃ x y, IsTupOf2 h TO x y) ∧ (i ≤ n ∧ h.IsRevIter i1 a ((n : Int) - 1 - (i : Int))) ∧ h.IsListIter i2 b i
theorem revI_ob {h : Heap} {r l : Addr} {c : Int} (p : h.IsRevIter r l c) : ∃ o, h.get? r = some o ∧ ∀ v, o.data ≠ .cell v := by
  obtain ⟨o, e, _, d⟩ := p
  exact ⟨o, e, fun v q => by rw [d] at q; cases q⟩
theorem lstI_ob {h : Heap} {r l : Addr} {c : Nat} (p : h.IsListIter r l c) : ∃ o, h.get? r = some o ∧ ∀ v, o.data ≠ .cell v := ItB.ob (t := false) p
theorem turn_zipR {P : Program} {w : World} {K : PySem.W.Frag} {elts : List Expr} {kk : Nat} {tpos : Pos} {a b z TI TO i1 i2 : Addr} (n : Nat) (S : ZipSep2 z TI TO i1 i2 [i1, a] [i2, b]) (n1 : a ≠ i1) (n2 : b ≠ i2) :
    Turn P w K (.Tuple elts kk tpos) (Itr2 K a b n) [z, TI, TO, i1, i2] z (ZpR a b z TI TO i1 i2 n) where
  mem := List.mem_cons_self
  obj := fun i h st c hc => by
    obtain ⟨q0, q1, ⟨x, y, q2⟩, q3, q4⟩ := st
    exact fp5 (p := fun c => ∃ ob, h.get? c = some ob ∧ ∀ v, ob.data ≠ .cell v) hc ⟨_, q0, fun _ e => nomatch e⟩ ⟨_, q1, fun _ e => nomatch e⟩ ⟨_, q2, fun _ e => nomatch e⟩ (revI_ob q3.2) (lstI_ob q4)
  keep := fun i h h1 st k => by
    obtain ⟨q0, q1, ⟨x, y, q2⟩, q3, q4⟩ := st
    exact ⟨k z (by simp) _ q0, k TI (by simp) _ q1, ⟨x, y, k TO (by simp) _ q2⟩, ⟨q3.1, q3.2.at fun o e => k i1 (by simp) o e⟩, q4.at fun o e => k i2 (by simp) o e⟩
  item := by
    intro X hP hw hK hcalm i pins sh σ H E I hf st hgo
    subst hP hw hK
    obtain ⟨q0, q1, ⟨x0, y0, q2⟩, q3, q4⟩ := st
    obtain ⟨xs, ys, x, y, ⟨hxs, hln, hin, hx⟩, hys, hy⟩ := hgo
    obtain ⟨us, r1, p1, _⟩ := I.list hxs
    obtain ⟨vs, r2, p2, _⟩ := I.list hys
    obtain ⟨u, hu, ru⟩ := r1.get hx
    obtain ⟨v, hv, rv⟩ := r2.get hy
    have lz : z < sh.heap.objs.size := Heap.lt_size q0
    have us_n : us.toArray.size = n := by rw [List.size_toArray, ← r1.length, hln]
    have iv : i < vs.toArray.size := by
      rw [List.size_toArray]
      exact (List.getElem?_eq_some_iff.mp hv).1
    have st1 : RvAt i1 a us.toArray i sh.heap := ⟨by rw [us_n]; exact q3, p1.isList⟩
    refine wpAny_pyNext_zipD2_item S (drawsR (A := X.A.in1) (I.ok.hd hcalm) i1 a n1 us.toArray) (Draws.list (A := X.A.in1) (I.ok.hd hcalm) i2 b n2 vs.toArray) q0 q1 q2 st1 ⟨q4, p2.isList⟩ (by rw [us_n]; exact hin) iv fun u1 v1 h1 tk eu ev z1 T1 s1 s2 nT sz k => ?_
    have eu : u1 = u := by
      have e : us[n - 1 - i]? = some u1 := by rw [us_n] at eu; simpa using eu
      rw [hu] at e
      exact (Option.some.inj e).symm
    have ev : v1 = v := by
      have e : vs[i]? = some v1 := by simpa using ev
      rw [hv] at e
      exact (Option.some.inj e).symm
    subst eu ev
    refine ⟨_, rfl, wpAny_letOwnedTupleGo_zip (s := { sh with heap := h1, toks := tk }) z1 fun h2 z2 sb => ?_⟩
    have nT2 : h2.get? sh.heap.objs.size = some { cls := .type "tuple", data := .seq #[u1, v1] } := (sb.2 _ (Nat.ne_of_gt lz)).trans nT
    have new : ObjOk X.prog X.w (upd H sh.heap.objs.size (.tup [x, y])) h2 sh.heap.objs.size (.tup [x, y]) :=
      ⟨by show 2 ≤ sizeLine; decide, [u1, v1], .cons ru (.cons rv .nil), ⟨_, nT2, rfl, _, rfl⟩⟩
    have kk : ∀ c o, c ∉ [z, TI, TO, i1, i2] → sh.heap.get? c = some o → h2.get? c = some o := fun c o hc e =>
      (sb.2 c fun q => hc (by simp [q])).trans (k c o (fun q => hc (by simp [q])) (fun q => hc (by simp [q])) (fun q => hc (by simp [q])) (fun q => hc (by simp [q])) e)
    have I2 : Inv X pins σ (upd H sh.heap.objs.size (.tup [x, y])) { sh with heap := h2, toks := tk } := I.turnedNew (ch := [z, TI, TO, i1, i2]) kk hf (Nat.le_refl _) new
    have old : ∀ c o, sh.heap.get? c = some o → c ≠ sh.heap.objs.size := fun c o e => Nat.ne_of_lt (Heap.lt_size e)
    have s11 := s1.1
    rw [us_n] at s11
    refine ⟨.ref sh.heap.objs.size, _, I2, rfl, ⟨_, x, y, rfl, I.hok.fresh (Nat.le_refl _), rfl, fun l hl => by rw [I.list_inj hl hxs]; exact hx, fun l hl => by rw [I.list_inj hl hys]; exact hy⟩, ⟨z2, ?_, ⟨u1, v1, ?_⟩, ⟨s11.1, ?_⟩, ?_⟩, fun c hc => ?_⟩
    · exact (sb.2 _ S.TIz).trans (k _ _ S.TIz S.TITO S.TIi1 S.TIi2 q1)
    · exact (sb.2 _ S.TOz).trans T1
    · exact s11.2.at fun o e => (sb.2 i1 S.zi1.symm).trans e
    · exact s2.1.at fun o e => (sb.2 i2 S.zi2.symm).trans e
    · have ne : c ≠ sh.heap.objs.size := fp5 (p := fun c => c ≠ sh.heap.objs.size) hc (old _ _ q0) (old _ _ q1) (old _ _ q2) (by obtain ⟨o, e, _⟩ := q3.2; exact old _ _ e) (by obtain ⟨o, e, _⟩ := q4; exact old _ _ e)
      rw [upd_ne ne]
      exact (hf c hc).1
  done := by
    intro X hP hw hK hcalm i pins sh σ H E I hf st hstop
    subst hP hw hK
    obtain ⟨q0, q1, ⟨x0, y0, q2⟩, q3, q4⟩ := st
    obtain ⟨xs, ys, ⟨hxs, hys⟩, hln, l1, l2, he⟩ := hstop
    obtain ⟨us, r1, p1, _⟩ := I.list hxs
    obtain ⟨vs, r2, p2, _⟩ := I.list hys
    have us_n : us.toArray.size = n := by rw [List.size_toArray, ← r1.length, hln]
    have vs_n : vs.toArray.size = ys.length := by rw [List.size_toArray, ← r2.length]
    have st1 : RvAt i1 a us.toArray i sh.heap := ⟨by rw [us_n]; exact q3, p1.isList⟩
    refine wpAny_pyNext_zipD2_end S (drawsR (A := X.A.in1) (I.ok.hd hcalm) i1 a n1 us.toArray) (Draws.list (A := X.A.in1) (I.ok.hd hcalm) i2 b n2 vs.toArray) q0 q1 q2 st1 ⟨q4, p2.isList⟩ (by omega) (by omega) (by omega) fun h1 tk k => ?_
    exact ⟨rfl, I.turnedL (ch := [z, TI, TO, i1, i2]) (fun c o hc e => k c o (fun q => hc (by simp [q])) (fun q => hc (by simp [q])) (fun q => hc (by simp [q])) (fun q => hc (by simp [q])) e) hf⟩
  self := fun A i sh Q E st h => wpAny_pyIter_zip st.1 h
/-- zip(reversed(e), e2), both lists -/
def iZipR (K : PySem.W.Frag) (te te2 : TE) : TI := fun σ H R => te σ H fun v H1 => ∃ a xs, v = .ref a ∧ SqL K H1 a xs ∧ te2 σ H1 fun v2 H2 => ∃ b ys, v2 = .ref b ∧ SqL K H2 a xs ∧ SqL K H2 b ys ∧ R (Itr2 K a b xs.length) H2
theorem pi_zipR {X : Cx} {e e2 : Expr} {te te2 : TE} {p p2 pos pos2 tpos : Pos} {elts : List Expr} {kk : Nat} (hg : Gl X "zip") (hm : X.mg "zip" = none) (hg2 : Gl X "reversed") (hm2 : X.mg "reversed" = none) (he : PE X e te) (he2 : PE X e2 te2)
    (hs : starEach [Expr.Call (.Name "reversed" p2) [e] [] pos2, e2] X.env = (false, eval (Expr.Call (.Name "reversed" p2) [e] [] pos2) X.env) :: starEach [e2] X.env := by rfl) (hs2 : starEach [e2] X.env = (false, eval e2 X.env) :: starEach [] X.env := by rfl)
    (hpl : (backTo pos (starEach [e2] X.env)).any (·.1) = false := by rfl) (hs3 : starEach [e] X.env = (false, eval e X.env) :: starEach [] X.env := by rfl) :
    PI X (.Tuple elts kk tpos) (.Call (.Name "zip" p) [.Call (.Name "reversed" p2) [e] [] pos2, e2] [] pos) (iZipR X.K te te2) := by
  refine ⟨fun pins sh σ H R I h => ?_⟩
  refine Call_ (ld_blt I hg hm PyProof.Rows.boot_zip (PyProof.Rows.callWith_type1 (PyProof.Rows.args_cons (Call_ (ld_blt I hg2 hm2 PyProof.Rows.boot_reversed (PyProof.Rows.callWith_type1 (PyProof.Rows.args_cons (thn (he.run pins sh σ H _ I h) fun u s1 ⟨v, H1, I1, rr, q⟩ => PyProof.Rows.args_nil ?_) hs3) hs3 rfl))) hs) hs hpl))
  obtain ⟨a, xs, rfl, hx, q⟩ := q
  obtain rfl : u = Value.ref a := rr
  obtain ⟨us, r1, p1, _⟩ := I1.list hx
  refine call_reversed_list p1.isList ?_
  have F1 := I1.fpOk (b := s1.heap.objs.size) (Nat.le_refl _) (I1.hok.fresh (Nat.le_refl _))
  have I2 : Inv X pins σ H1 { s1 with heap := s1.heap.push (revObj a ((us.toArray.size : Int) - 1)) } := I1.kept (t' := s1.toks) (fun b u e => Heap.get?_push_of_some _ e)
  have I3 : Inv X ((s1.heap.objs.size, revObj a ((us.toArray.size : Int) - 1)) :: pins) σ H1 { s1 with heap := s1.heap.push (revObj a ((us.toArray.size : Int) - 1)) } := I2.pins_of (fun p hp => by
    rcases List.mem_cons.mp hp with rfl | hp
    · exact ⟨Heap.get?_push_size _ rfl, F1.1, F1.2.1, F1.2.2.1, fun v e => nomatch e⟩
    · exact I2.pin p (List.mem_append_right _ hp))
  refine PyProof.Rows.args_cons (thn (he2.run _ _ σ H1 _ I3 q) fun u2 s2 ⟨v2, H2, I4, rr2, q2⟩ => PyProof.Rows.args_nil ?_) hs2
  obtain ⟨b, ys, rfl, hx2, hy, q3⟩ := q2
  obtain rfl : u2 = Value.ref b := rr2
  have P0 := I4.pin (s1.heap.objs.size, revObj a ((us.toArray.size : Int) - 1)) (List.mem_append_right _ List.mem_cons_self)
  have I5 : Inv X pins σ H2 s2 := I4.pins_of fun p hp => I4.pin p (List.mem_append_right _ (List.mem_cons_of_mem _ hp))
  obtain ⟨vs, r2, p2, _⟩ := I5.list hy
  obtain ⟨us2, _, p3, _⟩ := I5.list hx2
  have FR : FpOk X pins H2 s1.heap.objs.size := ⟨P0.2.1, F1.2⟩
  have lr : @LT.lt Nat _ s1.heap.objs.size s2.heap.objs.size := Heap.lt_size P0.1
  have la : @LT.lt Nat _ a s1.heap.objs.size := HsB.lt (t := false) p1.isList
  have lb : @LT.lt Nat _ b s2.heap.objs.size := HsB.lt (t := false) p2.isList
  have us_n : us.toArray.size = xs.length := by rw [List.size_toArray, r1.length]
  refine zipR_begins (begins_list b vs.toArray) (c := (us.toArray.size : Int) - 1) (l := a) ⟨_, P0.1, rfl, rfl⟩ p2.isList fun g z0 z1 z2 g1 k => wpAny_pyIter_zip z0 ?_
  have I6 : Inv X pins σ H2 { s2 with heap := g } := I5.kept (t' := s2.toks) k
  generalize s1.heap.objs.size = r at *
  generalize hN : s2.heap.objs.size = N at *
  have nb : @Ne Nat b r := fun e => by
    subst e
    obtain ⟨o, eo, co, _⟩ := p2.isList
    have eo2 := P0.1
    rw [show (b, revObj a ((us.toArray.size : Int) - 1)).1 = b from rfl, eo] at eo2
    rw [Option.some.inj eo2] at co
    exact absurd (show "list_reverseiterator" = "list" from Value.type.inj co) (by decide)
  have S : ZipSep2 (N + 3) (N + 1) (N + 2) r N [r, a] [N, b] := by
    constructor <;> first | (refine PySem.W.neN ?_; omega) | exact List.mem_cons_self | (refine nm2 ?_ ?_ <;> refine PySem.W.neN ?_ <;> omega)
  refine ⟨N + 3, _, _, _, H2, rfl, I6, turn_zipR xs.length S (Nat.ne_of_lt la) (Nat.ne_of_lt lb), ⟨z0, z1, ⟨_, _, z2⟩, ⟨Nat.zero_le _, ?_⟩, ⟨_, g1, rfl, rfl⟩⟩, fun c hc => ?_, q3⟩
  · exact ⟨_, k _ _ P0.1, rfl, by rw [us_n]; show Data.fields #[.ref a, rawInt ((xs.length : Int) - 1)] = Data.fields #[.ref a, rawInt ((xs.length : Int) - 1 - ((0 : Nat) : Int))]; rw [show (xs.length : Int) - 1 - ((0 : Nat) : Int) = (xs.length : Int) - 1 by omega]⟩
  · have big : ∀ c, N ≤ c → FpOk X pins H2 c := fun c le => I5.fpOk (by rw [hN]; exact le) (I5.hok.fresh (by rw [hN]; exact le))
    exact fp5 (p := fun c => FpOk X pins H2 c) hc (big _ (Nat.le_add_right _ _)) (big _ (Nat.le_add_right _ _)) (big _ (Nat.le_add_right _ _)) FR (big _ (Nat.le_refl _))
def LcZR (K : PySem.W.Frag) (a b : Addr) (n : Nat) := LcJ (Itr2 K a b n)
section
variable {K : PySem.W.Frag} {a b : Addr} {xs ys : List V} {g : TG} {σ : L2.St} {H : Hp} {te2 te3 : TE} {tt : TT} {te : TE} {vs : List Nat} {Q : VK}
theorem rd_lcZR : tLc (iZipR K te2 te3) g tt te vs σ H Q = te2 σ H fun v H1 => ∃ a xs, v = .ref a ∧ SqL K H1 a xs ∧ te3 σ H1 fun v2 H2 => ∃ b ys, v2 = .ref b ∧ SqL K H2 a xs ∧ SqL K H2 b ys ∧ LcZR K a b xs.length g tt te vs σ H2 Q := rfl
/-- the items are told, the first ones from the end -/
theorem LcZR.p {n : Nat} (hn : xs.length = n) (hn2 : ys.length = n) (y : Nat → Option V) (hm : n ≤ 10000000) (hx : ∀ H1, Same H H1 → SqL K H1 a xs ∧ SqL K H1 b ys)
    (hs : ∀ (i : Nat) (x x' : V), i < n → xs[n - 1 - i]? = some x → ys[i]? = some x' → ∀ H1 T, Same H H1 → H1 T = some (.tup [x, x']) → ∀ (M : VK) (S : Hp → Prop), (∀ v H2, y i = some v → Same H1 H2 → M v H2) → (∀ H2, y i = none → Same H1 H2 → S H2) →
      g (.ref T) (wipe σ vs) H1 fun σ2 H2 => wipe σ2 vs = wipe σ vs ∧ tt σ2 H2 fun b H3 => if b = true then te σ2 H3 M else S H3)
    (hd : ∀ D H', H D = none → Same H H' → H' D = some (.lst ((List.range n).filterMap y)) → Q (.ref D) H') : LcZR K a b n g tt te vs σ H Q := by
  intro D hD
  refine ⟨fun i m H1 => m = n - i ∧ i ≤ n ∧ ∃ zs, pureI H n y i zs H1 ∧ H1 D = some (.lst zs), ⟨_, rfl, Nat.zero_le _, [], ⟨same_upd hD, rfl, Nat.zero_le _⟩, upd_same⟩, ?_⟩
  rintro i m H1 ⟨rfl, hin, zs, p, hz1⟩
  obtain ⟨qx, qy⟩ := hx H1 p.1
  rcases Nat.lt_or_ge i n with c | c
  · have hxi : n - 1 - i < xs.length := by omega
    have hyi : i < ys.length := by omega
    refine .inr ⟨⟨xs, ys, _, _, ⟨qx, hn, c, List.getElem?_eq_getElem hxi⟩, qy, List.getElem?_eq_getElem hyi⟩, fun H' => ∃ zs, pureI H n y (i + 1) zs H' ∧ H' D = some (.lst zs), fun H' p' => ⟨n - (i + 1), by omega, rfl, c, p'⟩, fun v H' z => ?_⟩
    obtain ⟨T, x, x', rfl, hT, rfl, f1, f2⟩ := z
    have sT := same_upd (o := HO.tup [x, x']) hT
    refine hs i x x' c (f1 xs qx) (f2 ys qy) _ T (p.1.trans sT) upd_same (fun y H4 => ∃ acc, H4 D = some (.lst acc) ∧ acc.length < sizeLine ∧ ∃ zs, pureI H n _ (i + 1) zs (upd H4 D (.lst (acc ++ [y]))) ∧ (upd H4 D (.lst (acc ++ [y]))) D = some (.lst zs)) _ (fun v H2 e s2 => ?_) (fun H2 e s2 => ?_)
    · have hz2 := s2 _ _ (sT _ _ hz1)
      refine ⟨zs, hz2, pureI.z hm i zs H1 p, zs ++ [v], pureI.ind (i + 1) (zs ++ [v]) H2 D zs _ ⟨(p.1.trans sT).trans s2, ?_, by omega⟩ hD hz2, upd_same⟩
      rw [List.range_succ, List.filterMap_append, List.filterMap_cons, e, ← p.2.1]
      rfl
    · refine ⟨zs, ⟨(p.1.trans sT).trans s2, ?_, by omega⟩, s2 _ _ (sT _ _ hz1)⟩
      rw [List.range_succ, List.filterMap_append, List.filterMap_cons, e, List.filterMap_nil, List.append_nil, ← p.2.1]
  · have e : i = n := by omega
    subst e
    exact .inl ⟨⟨xs, ys, ⟨qx, qy⟩, hn, Nat.le_refl _, by omega, .inl rfl⟩, hd D H1 hD p.1 (by rw [← p.2.1]; exact hz1)⟩
theorem LcZR.w {n : Nat} (hn : xs.length = n) (hn2 : ys.length = n) (Pw : Nat → Addr → List V → Hp → Prop) (h0 : ∀ D, H D = none → Pw 0 D [] (upd H D (.lst []))) (hl : ∀ D i zs H1, i ≤ n → Pw i D zs H1 → SqL K H1 a xs ∧ SqL K H1 b ys)
    (hs : ∀ (D : Addr) (i : Nat) (x x' : V) (zs : List V) (H1 : Hp) (T : Addr), i < n → xs[n - 1 - i]? = some x → ys[i]? = some x' → Pw i D zs H1 → H1 T = none → ∀ N : Hp → Prop, (∀ zs' H', Pw (i + 1) D zs' H' → N H') →
      g (.ref T) (wipe σ vs) (upd H1 T (.tup [x, x'])) fun σ2 H2 => wipe σ2 vs = wipe σ vs ∧ tt σ2 H2 fun b H3 => if b = true then te σ2 H3 fun y H4 => ∃ acc, H4 D = some (.lst acc) ∧ acc.length < sizeLine ∧ N (upd H4 D (.lst (acc ++ [y]))) else N H3)
    (hd : ∀ D zs H', H D = none → Pw n D zs H' → Q (.ref D) H') : LcZR K a b n g tt te vs σ H Q := by
  intro D hD
  refine ⟨fun i m H1 => m = n - i ∧ i ≤ n ∧ ∃ zs, Pw i D zs H1, ⟨_, rfl, Nat.zero_le _, [], h0 D hD⟩, ?_⟩
  rintro i m H1 ⟨rfl, hin, zs, p⟩
  obtain ⟨qx, qy⟩ := hl D i zs H1 hin p
  rcases Nat.lt_or_ge i n with c | c
  · have hxi : n - 1 - i < xs.length := by omega
    have hyi : i < ys.length := by omega
    refine .inr ⟨⟨xs, ys, _, _, ⟨qx, hn, c, List.getElem?_eq_getElem hxi⟩, qy, List.getElem?_eq_getElem hyi⟩, fun H' => ∃ zs', Pw (i + 1) D zs' H', fun H' p' => ⟨n - (i + 1), by omega, rfl, c, p'⟩, fun v H' z => ?_⟩
    obtain ⟨T, x, x', rfl, hT, rfl, f1, f2⟩ := z
    exact hs D i x x' zs H1 T c (f1 xs qx) (f2 ys qy) p hT _ fun zs' H' p' => ⟨zs', p'⟩
  · have e : i = n := by omega
    subst e
    exact .inl ⟨⟨xs, ys, ⟨qx, qy⟩, hn, Nat.le_refl _, by omega, .inl rfl⟩, hd D zs H1 hD p⟩
end
theorem rd_revR1 {ta : TE} {g : TG} {tb : TS} {D : Ends} {σ : L2.St} {H : Hp} : tFor (iRevR (tRg1 ta)) g tb D σ H = ta σ H fun x H1 => ∃ n : Int, x = .int n ∧ -(2 ^ 62) ≤ (0 : Int) ∧ (0 : Int) < 2 ^ 62 ∧ -(2 ^ 62) ≤ n ∧ n < 2 ^ 62 ∧ ForC (0 + (((n - 0).toNat : Nat) : Int) - 1) (-1) (n - 0).toNat g tb D σ H1 := rfl
theorem sl_tupAK {X : Cx} {K : PySem.W.Frag} (h : X.K = K) : SlR X (rSlA K) := by
  subst h
  exact sl_tupA
end CB
/-! enumerate of a list -/
namespace CB
open PySem PySem.Spec PyProof.Rows L2
def IteL (K : PySem.W.Frag) (a : Addr) : It :=
  ⟨fun i H => ∃ (xs : List V) (x : V), SqL K H a xs ∧ xs[i]? = some x, fun i H v H1 => ∃ T x, v = .ref T ∧ H T = none ∧ H1 = upd H T (.tup [.int (i : Nat), x]) ∧ ∀ xs, SqL K H a xs → xs[i]? = some x, fun i H => ∃ xs : List V, SqL K H a xs ∧ xs.length = i⟩
theorem turn_enumL {P : Program} {w : World} {K : PySem.W.Frag} {elts : List Expr} {kk : Nat} {tpos : Pos} (a e it : Addr) :
    Turn P w K (.Tuple elts kk tpos) (IteL K a) [e, it] e (fun i h => (∃ old, IsEnum h e it ((i : Nat) : Int) old) ∧ h.IsListIter it a i ∧ e ≠ it ∧ e ≠ a ∧ a ≠ it) where
  mem := List.mem_cons_self
  obj := fun i h st b hb => by
    obtain ⟨⟨old, en⟩, ⟨o, ho, _, hd⟩, _⟩ := st
    rcases (by simpa using hb : b = e ∨ b = it) with rfl | rfl
    · exact ⟨_, en, fun v q => nomatch q⟩
    · refine ⟨o, ho, fun v q => ?_⟩
      rw [hd] at q
      cases q
  keep := fun i h h1 st k => by
    obtain ⟨⟨old, en⟩, hi, ne⟩ := st
    exact ⟨⟨old, k e List.mem_cons_self _ en⟩, hi.at fun o q => k it (List.mem_cons_of_mem _ List.mem_cons_self) o q, ne⟩
  item := by
    intro X hP hw hK hc i pins s σ H E I hf st hg
    subst hP hw hK
    obtain ⟨⟨old, en⟩, hit, ne, nea, nai⟩ := st
    obtain ⟨xs, x, hq, hx⟩ := hg
    obtain ⟨its, rv, tp, _⟩ := I.list hq
    obtain ⟨u, hu, ru⟩ := rv.get hx
    have lte : e < s.heap.objs.size := Heap.lt_size en
    have lti : it < s.heap.objs.size := by
      obtain ⟨_, q, _⟩ := hit
      exact Heap.lt_size q
    have ilt : i < its.toArray.size := by
      rw [List.size_toArray]
      exact (List.getElem?_eq_some_iff.mp hu).1
    refine wpAny_pyNext_enum_itemD (Draws.list (A := X.A.in1) (I.ok.hd hc) it a nai its.toArray) en ⟨hit, show s.heap.IsList a its.toArray from tp.isList⟩ ilt ne (by simp [ne, nea]) fun x1 h1 tk hx1 ho st1 hT sz hk => ?_
    have ex1 : x1 = u := by
      have z : its[i]? = some x1 := by simpa using hx1
      rw [hu] at z
      cases z
      rfl
    subst ex1
    refine ⟨_, rfl, wpAny_letOwnedTupleGo_enum (s := { s with heap := h1, toks := tk + 1 }) ho fun h2 en2 sb => ?_⟩
    have hT2 : h2.get? s.heap.objs.size = some { cls := .type "tuple", data := .seq #[.int i tk, x1] } := (sb.2 _ (Nat.ne_of_gt lte)).trans hT
    have fresh : ObjOk X.prog X.w (upd H s.heap.objs.size (.tup [.int (i : Nat), x])) h2 s.heap.objs.size (.tup [.int (i : Nat), x]) :=
      ⟨by show 2 ≤ sizeLine; decide, [.int i tk, x1], .cons ⟨_, rfl⟩ (.cons ru .nil), ⟨_, hT2, rfl, _, rfl⟩⟩
    have I2 : Inv X pins σ (upd H s.heap.objs.size (.tup [.int (i : Nat), x])) { s with heap := h2, toks := tk + 1 } :=
      I.turnedNew (ch := [e, it]) (fun b ob hb q => (sb.2 b (fun z => hb (by simp [z]))).trans (hk b ob (fun z => hb (by simp [z])) (fun z => hb (by simp [z])) q)) hf (Nat.le_refl _) fresh
    refine ⟨.ref s.heap.objs.size, _, I2, rfl, ⟨_, x, rfl, I.hok.fresh (Nat.le_refl _), rfl, fun ys hy => by rw [I.list_inj hy hq]; exact hx⟩, ⟨⟨x1, ?_⟩, st1.1.at fun o q => (sb.2 it (Ne.symm ne)).trans q, ne, nea, nai⟩, fun b hb => ?_⟩
    · rw [show ((i + 1 : Nat) : Int) = (i : Int) + 1 by omega]
      exact en2
    · have lt : b < s.heap.objs.size := by
        rcases (by simpa using hb : b = e ∨ b = it) with rfl | rfl
        · exact lte
        · exact lti
      rw [upd_ne (Nat.ne_of_lt lt)]
      exact (hf b hb).1
  done := by
    intro X hP hw hK hc i pins s σ H E I hf st hg
    subst hP hw hK
    obtain ⟨⟨old, en⟩, hit, ne, nea, nai⟩ := st
    obtain ⟨xs, hq, hx⟩ := hg
    obtain ⟨its, rv, tp, _⟩ := I.list hq
    obtain ⟨g0, g1, g2, g3, g4, g5⟩ := hf it (List.mem_cons_of_mem _ List.mem_cons_self)
    have sz : its.toArray.size = i := by
      have := rv.length
      rw [List.size_toArray]
      omega
    subst sz
    exact wpAny_pyNext_enum_endD (Draws.list (A := X.A.in1) (I.ok.hd hc) it a nai its.toArray) en ⟨hit, show s.heap.IsList a its.toArray from tp.isList⟩ fun h1 eb => ⟨rfl, I.turned (t' := s.toks) (fun b o hb q => eb b o hb q) g0 g1 g3 g4 g5⟩
  self := fun A i s Q E st h => let ⟨⟨_, en⟩, _⟩ := st; wpAny_pyIter_enum en h
def iEnumL (K : PySem.W.Frag) (ta : TA) : TI := fun σ H R => ta σ H fun vs H1 => ∃ a xs, vs = [.ref a] ∧ SqL K H1 a xs ∧ R (IteL K a) H1
theorem pi_enumL {X : Cx} {e : Expr} {ta : TA} {p pos tpos : Pos} {elts : List Expr} {kk : Nat} (hg : Gl X "enumerate") (hm : X.mg "enumerate" = none) (ha : PA X [e] ta) (hs : starEach [e] X.env = [(false, eval e X.env)] := by rfl) :
    PI X (.Tuple elts kk tpos) (.Call (.Name "enumerate" p) [e] [] pos) (iEnumL X.K ta) := by
  refine ⟨fun pins s σ H R I h => ?_⟩
  refine Call_ (ld_blt I hg hm boot_enumerate (PyProof.Rows.callWith_type1 (thn (ha.run pos pins s σ H _ I h) fun us s1 ⟨vs, H1, I1, r1, a, xs, ex, hq, q⟩ => ?_) hs rfl))
  subst ex
  rw [Vals.ref1 r1]
  obtain ⟨its, rv, tp, _⟩ := I1.list hq
  have tp' : s1.heap.IsList a its.toArray := tp.isList
  have lta : a < s1.heap.objs.size := by
    obtain ⟨_, z, _⟩ := tp'
    exact Heap.lt_size z
  refine enum1_at (begins_list a its.toArray) tp' fun h1 en hi hk => wpAny_pyIter_enum en ?_
  have I2 : Inv X pins σ H1 { s1 with heap := h1 } := I1.kept (t' := s1.toks) hk
  refine ⟨s1.heap.objs.size + 1, [s1.heap.objs.size + 1, s1.heap.objs.size], _, _, H1, rfl, I2, turn_enumL a (s1.heap.objs.size + 1) s1.heap.objs.size, ⟨⟨.none, en⟩, ⟨_, hi, rfl, rfl⟩, Nat.succ_ne_self _, Nat.ne_of_gt (Nat.lt_succ_of_lt lta), Nat.ne_of_lt lta⟩, fun b hb => ?_, q⟩
  have le : s1.heap.objs.size ≤ b := by
    rcases (by simpa using hb : b = s1.heap.objs.size + 1 ∨ b = s1.heap.objs.size) with rfl | rfl
    · exact Nat.le_succ _
    · exact Nat.le_refl _
  exact I1.fpOk le (I1.hok.fresh le)
def ForEL (K : PySem.W.Frag) (a : Addr) := ForJ (IteL K a)
section
variable {K : PySem.W.Frag} {a : Addr} {xs : List V} {g : TG} {tb : TS} {D : Ends} {σ : L2.St} {H : Hp} {ta : TA} {tt : TT} {te : TE} {vs : List Nat} {Q : VK}
theorem rd_forEL : tFor (iEnumL K ta) g tb D σ H = ta σ H fun us H1 => ∃ a xs, us = [.ref a] ∧ SqL K H1 a xs ∧ ForEL K a g tb D σ H1 := rfl
theorem ForEL.w (Pw : Nat → L2.St → Hp → Prop) (h0 : Pw 0 σ H) (hl : ∀ i σ H, i ≤ xs.length → Pw i σ H → SqL K H a xs)
    (hs : ∀ (i : Nat) (x : V) (T : Addr) σ H, xs[i]? = some x → Pw i σ H → H T = none → ∀ N : L2.St → Hp → Prop, (∀ σ' H', Pw (i + 1) σ' H' → N σ' H') → g (.ref T) σ (upd H T (.tup [.int (i : Nat), x])) fun σ2 H2 => tb { D with nx := N, ct := N, bk := D.nx } σ2 H2)
    (hd : ∀ σ H, Pw xs.length σ H → D.nx σ H) : ForEL K a g tb D σ H := by
  refine ⟨fun i m σ H => m = xs.length - i ∧ i ≤ xs.length ∧ Pw i σ H, ⟨_, rfl, Nat.zero_le _, h0⟩, ?_⟩
  rintro i m σ H ⟨rfl, hi, p⟩
  have hq := hl i σ H hi p
  rcases Nat.lt_or_ge i xs.length with c | c
  · have hx : xs[i]? = some xs[i] := List.getElem?_eq_getElem c
    refine .inr ⟨⟨xs, _, hq, hx⟩, Pw (i + 1), fun σ' H' p' => ⟨xs.length - (i + 1), by omega, rfl, c, p'⟩, fun v H' y => ?_⟩
    obtain ⟨T, x, rfl, hT, rfl, f⟩ := y
    exact hs i x T σ H (f xs hq) p hT _ fun _ _ h => h
  · have e : i = xs.length := by omega
    subst e
    exact .inl ⟨⟨xs, hq, rfl⟩, hd σ H p⟩
end
/-! ### a comprehension within a comprehension -/
theorem rel_fc {env : Env} : ∀ {names : List (Str × NameKind)} {x : Str}, names.lookup x = some .cell ∨ names.lookup x = some .free →
    (names.map fun (n, k) => if (k == NameKind.free && env.scope.kind == .function && env.kindOf n == some .cell) then (n, NameKind.cell) else (n, k)).lookup x = some .cell ∨
    (names.map fun (n, k) => if (k == NameKind.free && env.scope.kind == .function && env.kindOf n == some .cell) then (n, NameKind.cell) else (n, k)).lookup x = some .free
  | [], _, h => by simp at h
  | (n, k) :: r, x, h => by
    have ih := @rel_fc env r x
    show List.lookup x ((if (k == NameKind.free && env.scope.kind == .function && env.kindOf n == some .cell) = true then (n, NameKind.cell) else (n, k)) :: _) = _ ∨ List.lookup x ((if (k == NameKind.free && env.scope.kind == .function && env.kindOf n == some .cell) = true then (n, NameKind.cell) else (n, k)) :: _) = _
    cases hx : x == n with
    | true =>
      simp only [List.lookup_cons, hx] at h
      by_cases hc : (k == NameKind.free && env.scope.kind == .function && env.kindOf n == some .cell) = true
      · rw [if_pos hc]
        simp [List.lookup_cons, hx]
      · rw [if_neg hc]
        simp only [List.lookup_cons, hx]
        exact h
    | false =>
      simp only [List.lookup_cons, hx] at h
      by_cases hc : (k == NameKind.free && env.scope.kind == .function && env.kindOf n == some .cell) = true
      · rw [if_pos hc]; simp only [List.lookup_cons, hx]; exact ih h
      · rw [if_neg hc]; simp only [List.lookup_cons, hx]; exact ih h
theorem blkOk_in {X : Cx} {s : Shared} {H : Hp} {sc0 scope : Scope} {cl : List (Str × Addr)} {C : Addr} {E0 : Env} {fp : List Addr} {own : List (Str × Nat)} {N : List Str} (hN : X.N = N) (h : blkC N sc0 scope own = true) :
    BlkOk (X.blk s H sc0 (compEnvC sc0 cl C E0) fp).N (X.blk s H sc0 (compEnvC sc0 cl C E0) fp).env.scope scope own := by
  have o := blkOk_by h
  refine ⟨o.kind, o.uniq, fun p hp => ?_, fun y hy e => rel_fc (o.free y hy e), fun y hy e => ?_⟩
  · show X.N[p.2]? = _
    rw [hN]
    exact o.ix p hp
  · show _ ∨ y.1 ∉ X.N
    rw [hN]
    exact o.own y hy e
theorem cr_sumK {X : Cx} {K : PySem.W.Frag} (h : X.K = K) (hc : X.calm = true) : CallR X (.builtin "sum") (rSum K) := by
  subst h
  exact cr_sum hc
theorem cr_tupOfK {X : Cx} {K : PySem.W.Frag} (h : X.K = K) : CallR X (.type "tuple") (rTupOf K) := by
  subst h
  exact cr_tupOf
theorem cr_lenK {X : Cx} {K : PySem.W.Frag} (h : X.K = K) : CallR X (.builtin "len") (rLenS K) := by
  subst h
  exact cr_lenS
end CB
/-! ### t[::-1] of a tuple -/
namespace HT
open PySem PyProof.Rows
section
variable {prog : Program} {w : World} {A : Around} {E : Value → Shared → Prop} {s : Shared}
theorem adjust_rev (n : Nat) : Builtin.Slice.sliceAdjust none none (-1) (n : Int) = ((n : Int) - 1, -1) := by
  unfold Builtin.Slice.sliceAdjust
  have h1 : (-1 : Int) < 0 := by omega
  simp only [h1, if_true]
theorem places_rev (n : Nat) : Builtin.Slice.slicePlaces ((n : Int) - 1) (-1) (-1) = n := by
  unfold Builtin.Slice.slicePlaces
  have h1 : ¬ (-1 : Int) > 0 := by omega
  simp only [h1, if_false]
  by_cases h : n = 0
  · subst h; rfl
  · rw [if_pos (show (n : Int) - 1 > -1 by omega)]
    show ((((n : Int) - 1 - -1 - 1) / 1 + 1) : Int).toNat = n
    rw [Int.ediv_one]
    omega
theorem sliceApplied_rev {sl : Addr} {vs : Value} {n : Nat} {Q : Int × Int × Nat → Shared → Prop} (hs : s.heap.IsSliceOf sl .none .none vs) (ps : IsPart vs (some (-1)))
    (h : Q ((n : Int) - 1, -1, n) s) : wpAny (model prog w) A (Builtin.Slice.sliceApplied (.ref sl) (pure (n : Int))) Q E s := by
  obtain ⟨os, hos, hcs, hds⟩ := id hs
  unfold Builtin.Slice.sliceApplied Builtin.Slice.sliceFields
  refine wpAny_bind (wpAny_bind (wpAny_field hos hds (x := .none) rfl (wpAny_bind (wpAny_field hos hds (x := .none) rfl (wpAny_bind (wpAny_field hos hds (x := vs) rfl (wpAny_pure ?_)))))))
  refine wpAny_bind (slicePart_ ps ?_)
  show wpAny _ _ (if ((-1 : Int) == 0) = true then _ else _) _ _ s
  rw [if_neg (by decide)]
  refine wpAny_bind (slicePart_ .none (wpAny_bind (slicePart_ .none (wpAny_bind (wpAny_pure ?_)))))
  show wpAny _ _ (match Builtin.Slice.sliceAdjust none none (-1) (n : Int) with | (lo, hi) => pure (lo, (-1 : Int), Builtin.Slice.slicePlaces lo hi (-1))) _ _ s
  rw [adjust_rev n]
  show wpAny _ _ (pure ((n : Int) - 1, (-1 : Int), Builtin.Slice.slicePlaces ((n : Int) - 1) (-1) (-1))) _ _ s
  rw [places_rev]
  exact wpAny_pure h
theorem pick_rev (xs : Array Value) : ((List.range xs.size).filterMap fun (m : Nat) => xs[(((xs.size : Int) - 1) + (m : Int) * (-1)).toNat]?).toArray = xs.toList.reverse.toArray := by
  have e : ((List.range xs.size).filterMap fun (m : Nat) => xs[(((xs.size : Int) - 1) + (m : Int) * (-1)).toNat]?) = ((List.range xs.size).map fun k => xs.size - 1 - k).filterMap (xs[·]?) := by
    rw [List.filterMap_map]
    congr 1
    funext m
    show xs[(((xs.size : Int) - 1) + (m : Int) * (-1)).toNat]? = xs[xs.size - 1 - m]?
    congr 1
    omega
  rw [e, PySem.W.krv_range, List.filterMap_reverse, PySem.W.krv_all]
theorem getItem_tuple_rev {t sl : Addr} {items : Array Value} {vs : Value} {Q : Value → Shared → Prop} (ht : IsTup s.heap t items) (hs : s.heap.IsSliceOf sl .none .none vs) (ps : IsPart vs (some (-1)))
    (h : Q (.ref s.heap.objs.size) { s with heap := s.heap.push { cls := .type "tuple", data := .seq items.toList.reverse.toArray } })
    (hsz : items.size ≤ sizeLine) : wpAny (model prog w) A (getItem (.ref t) (.ref sl)) Q E s := by
  have htake : sizeOk (.seq items.toList.reverse.toArray) := by
    show items.toList.reverse.toArray.size ≤ sizeLine
    rw [List.size_toArray, List.length_reverse, Array.length_toList]
    exact hsz
  obtain ⟨os, hos, hcs, hds⟩ := id hs
  have hTs : s.TypeIs (.ref sl) "slice" := ⟨os, hos, hcs⟩
  unfold getItem
  try with_reducible refine wpAny_holding ?_
  first | refine wpAny_bind (wpAny_pure ?_) | skip
  refine wpAny_bind (wpAny_sequenceKey ht.typeIs (by decide) ?_)
  refine wpAny_bind (wpAny_callSpecial?_slot (name := Str.ofString "__getitem__") ht.typeIs PyProof.Rows.slot_tuple_getitem
    (wpAny_call_entry PyProof.Rows.slot_tuple_getitem ht.typeIs entry_tuple_getitem ?_ (args_tuple_getitem _ _)))
  show wpAny _ _ (Builtin.Tuple.tupleItemsOf (.ref t) >>= _) _ _ s
  refine wpAny_bind (tupleItemsOf_ ht ?_)
  refine wpAny_bind (wpAny_typeOf hTs ?_)
  rw [if_pos (by decide)]
  refine wpAny_bind (sliceApplied_rev hs ps ?_)
  have hno : ¬ (((items.size : Int) - 1 == 0 && (-1 : Int) == 1 && items.size == items.size) = true) := by
    intro q
    rw [Bool.and_eq_true, Bool.and_eq_true] at q
    exact absurd q.1.2 (by decide)
  show wpAny _ _ (if ((items.size : Int) - 1 == 0 && (-1 : Int) == 1 && items.size == items.size) = true then _ else _) _ _ s
  rw [if_neg hno, pick_rev]
  first
    | exact wpAny_bind (m := Builtin.Tuple.tupleExact _) (wpAny_newObj_type (wpAny_pure ⟨_, rfl, wpAny_pure h⟩) htake)
    | exact wpAny_bind (m := Builtin.Tuple.tupleExact _) (wpAny_newObj_type (wpAny_bind (wpAny_pure (wpAny_pure ⟨_, rfl, wpAny_pure h⟩))) htake)
    | exact wpAny_bind (wpAny_bind (m := Builtin.Tuple.tupleExact _) (wpAny_newObj_type (wpAny_pure (wpAny_pure ⟨_, rfl, wpAny_pure h⟩)) htake))
    | exact wpAny_bind (wpAny_bind (m := Builtin.Tuple.tupleExact _) (wpAny_newObj_type (wpAny_pure ⟨_, rfl, wpAny_pure h⟩) htake))
end
end HT
namespace CB
open PySem PySem.Spec PyProof.Rows L2
section
variable {X : Cx}
def tRevT (K : PySem.W.Frag) (te : TE) : TE := fun σ H Q => te σ H fun x H1 => ∃ a xs, x = .ref a ∧ SqT K H1 a xs ∧ ∀ p, H1 p = none → Q (.ref p) (upd H1 p (.tup xs.reverse))
theorem pe_revT {e : Expr} {te : TE} {k : Nat} {p1 p2 p3 pos : Pos} (he : PE X e te) : PE X (.Subscript e (.Slice none none (some (.UnaryOp .USub (.Constant (.int 1) k p1) p2)) p3) pos) (tRevT X.K te) := by
  refine ⟨fun pins s σ H Q I h => ?_⟩
  refine Subscript_ (thn (he.run pins s σ H _ I h) fun v s1 ⟨x, H1, I1, r1, q1⟩ => ?_)
  obtain ⟨a, xs, ex, hx, q⟩ := q1
  subst ex
  cases r1
  have hst : PO X (some (.UnaryOp .USub (.Constant (.int 1) k p1) p2)) (tPart (tUn (rU fun i => .int (-i)) (tC (.int 1)))) := po_some (pe_un un_neg pe_int)
  refine wpAny_Slice (thn (po_none.run pins s1 σ H1 (fun o H2 => o = none ∧ H2 = H1) I1 ⟨rfl, rfl⟩) fun vl s2 ⟨l, H2, I2, pl, el, e2⟩ => ?_)
  subst el e2
  refine thn (po_none.run pins s2 σ H2 (fun o H3 => o = none ∧ H3 = H2) I2 ⟨rfl, rfl⟩) fun vu s3 ⟨u, H3, I3, pu, eu, e3⟩ => ?_
  subst eu e3
  refine thn (hst.run pins s3 σ H3 (fun o H4 => o = some (-1) ∧ H4 = H3) I3 ⟨1, rfl, -1, rfl, rfl, rfl⟩) fun vs s4 ⟨o, H4, I4, ps, eo, e4⟩ => ?_
  subst eo e4
  cases pl
  cases pu
  have I5 : Inv X pins σ H4 { s4 with heap := s4.heap.push { cls := .type "slice", data := .fields #[.none, .none, vs] } } := I4.kept (t' := s4.toks) fun b ob q => Heap.get?_push_of_some _ q
  obtain ⟨its, r, ht, hz⟩ := I5.tuple hx
  have hlen := r.length
  show wpAny (model X.prog X.w) X.A (subscriptTail e (.Slice none none (some (.UnaryOp .USub (.Constant (.int 1) k p1) p2)) p3) (.ref a) (.ref s4.heap.objs.size)) (EP X pins σ Q) X.xe { s4 with heap := s4.heap.push { cls := .type "slice", data := .fields #[.none, .none, vs] } }
  refine tail_any (ops := [.ref a, .ref s4.heap.objs.size]) ht.typeIs PyProof.Rows.slot_tuple_getitem.lookup ?_ (by with_unfolding_all rfl)
  refine HT.getItem_tuple_rev ht (Heap.IsSliceOf.new _ .none .none vs) ps ?_ (by rw [List.size_toArray]; omega)
  refine ⟨.ref _, _, I5.laid (t' := s4.toks) (o := .tup xs.reverse) (fun b ob q => Heap.get?_push_of_some _ q) (Nat.le_refl _) ?_, rfl, q _ (I5.hok.fresh (Nat.le_refl _))⟩
  exact ⟨by rw [List.length_reverse]; exact hz, _, r.reverse, IsTup.new _ _⟩
end
section
variable {K : PySem.W.Frag} {a : Addr} {xs : List V} {g : TG} {tb : TS} {D : Ends} {σ : L2.St} {H : Hp} {te : TE} {ta : TA} {Q : VK}
theorem rd_revT : tRevT K te σ H Q = te σ H fun x H1 => ∃ a xs, x = .ref a ∧ SqT K H1 a xs ∧ ∀ p, H1 p = none → Q (.ref p) (upd H1 p (.tup xs.reverse)) := rfl
/-! ### a loop over reversed(a list) -/
def ForRv (K : PySem.W.Frag) (a : Addr) (n : Nat) := ForJ (Itv K a n)
def ForRvT (K : PySem.W.Frag) (a : Addr) (n : Nat) := ForJ (RT.ItvT K a n)
theorem rd_forRv : tFor (RT.iRevA K te) g tb D σ H = te σ H fun v H1 => ∃ (a : Addr) (xs : List V), v = .ref a ∧ ((SqL K H1 a xs ∧ ForRv K a xs.length g tb D σ H1) ∨ (SqT K H1 a xs ∧ ForRvT K a xs.length g tb D σ H1)) := rfl
theorem ForRv.w {n : Nat} (hn : xs.length = n) (Pw : Nat → L2.St → Hp → Prop) (h0 : Pw 0 σ H) (hl : ∀ i σ H, Pw i σ H → SqL K H a xs)
    (hs : ∀ i x σ H, i < xs.length → xs[xs.length - 1 - i]? = some x → Pw i σ H → ∀ N : L2.St → Hp → Prop, (∀ σ' H', Pw (i + 1) σ' H' → N σ' H') → g x σ H fun σ2 H2 => tb { D with nx := N, ct := N, bk := D.nx } σ2 H2) (hd : ∀ σ H, Pw xs.length σ H → D.nx σ H) : ForRv K a n g tb D σ H := by
  subst hn
  exact RT.for_Itv Pw h0 hl (fun i x σ H h1 h2 p => hs i x σ H h1 h2 p _ fun _ _ h => h) hd
theorem ForRvT.w {n : Nat} (hn : xs.length = n) (Pw : Nat → L2.St → Hp → Prop) (h0 : Pw 0 σ H) (hl : ∀ i σ H, Pw i σ H → SqT K H a xs)
    (hs : ∀ i x σ H, i < xs.length → xs[xs.length - 1 - i]? = some x → Pw i σ H → ∀ N : L2.St → Hp → Prop, (∀ σ' H', Pw (i + 1) σ' H' → N σ' H') → g x σ H fun σ2 H2 => tb { D with nx := N, ct := N, bk := D.nx } σ2 H2) (hd : ∀ σ H, Pw xs.length σ H → D.nx σ H) : ForRvT K a n g tb D σ H := by
  subst hn
  exact RT.for_ItvT Pw h0 hl (fun i x σ H h1 h2 p => hs i x σ H h1 h2 p _ fun _ _ h => h) hd
end
/-! ### list(xs) -/
def rListOf (K : PySem.W.Frag) : List V → Hp → VK → Prop := fun xs H Q => ∃ p ys, xs = [.ref p] ∧ (SqL K H p ys ∨ SqT K H p ys) ∧ ∀ l, H l = none → Q (.ref l) (upd H l (.lst ys))
theorem cr_listOfK {X : Cx} {K : PySem.W.Frag} (h : X.K = K) : CallR X (.type "list") (rListOf K) := by
  subst h
  exact call_list_of
theorem rd_listOf {K : PySem.W.Frag} {xs : List V} {H : Hp} {Q : VK} : rListOf K xs H Q = ∃ p ys, xs = [.ref p] ∧ (SqL K H p ys ∨ SqT K H p ys) ∧ ∀ l, H l = none → Q (.ref l) (upd H l (.lst ys)) := rfl
/-! ### xs.insert(i, y) -/
def rInsert : V → List V → Hp → VK → Prop := fun x vs H Q => ∃ (l : Addr) (xs : List V) (i : Int) (y : V), x = .ref l ∧ vs = [.int i, y] ∧ H l = some (.lst xs) ∧ xs.length < sizeLine ∧ 0 ≤ i ∧ i < 2 ^ 63 ∧ Q .non (upd H l (.lst (xs.take i.toNat ++ [y] ++ xs.drop i.toNat)))
theorem mt_ins {X : Cx} : MtR X "list.insert" rInsert := L2.mt_insert
theorem rd_ins {K : PySem.W.Frag} {to : TE} {t : TA} {σ : L2.St} {H : Hp} {Q : VK} : tBM K "list" rInsert to t σ H Q = to σ H fun x H1 => tyV K "list" x H1 ∧ t σ H1 fun vs H2 => ∃ (l : Addr) (xs : List V) (i : Int) (y : V), x = .ref l ∧ vs = [.int i, y] ∧ H2 l = some (.lst xs) ∧ xs.length < sizeLine ∧ 0 ≤ i ∧ i < 2 ^ 63 ∧ Q .non (upd H2 l (.lst (xs.take i.toNat ++ [y] ++ xs.drop i.toNat))) := rfl
/-! ### i in xs, xs.index(i), of ints -/
theorem eqV_int {i j : Int} : eqV (V.int i) (V.int j) = decide (i = j) := by
  by_cases h : i = j
  · subst h; simp [eqV]
  · rw [decide_eq_false h]
    simp [eqV, h]
theorem flat_ints (ns : List Int) : (ns.map V.int).all flatV = true := by
  refine List.all_eq_true.mpr fun x hx => ?_
  obtain ⟨n, _, rfl⟩ := List.mem_map.mp hx
  rfl
theorem in_ints (i : Int) (ns : List Int) : inV (V.int i) (ns.map V.int) = decide (i ∈ ns) := by
  unfold inV
  rw [List.any_map]
  by_cases h : i ∈ ns
  · rw [decide_eq_true h]
    refine List.any_eq_true.mpr ⟨i, h, ?_⟩
    show eqV (V.int i) (V.int i) = true
    rw [eqV_int, decide_eq_true rfl]
  · rw [decide_eq_false h]
    refine List.any_eq_false.mpr fun x hx => ?_
    show ¬ eqV (V.int x) (V.int i) = true
    rw [eqV_int]
    intro e
    have := of_decide_eq_true e
    subst this
    exact h hx
def rInI (K : PySem.W.Frag) (neg : Bool) : R2 := fun x y H Q => ∃ (p : Addr) (i : Int) (ns : List Int), x = .int i ∧ y = .ref p ∧ (SqL K H p (ns.map V.int) ∨ SqT K H p (ns.map V.int)) ∧ Q (.bl (if neg then !decide (i ∈ ns) else decide (i ∈ ns))) H
theorem op_inI {X : Cx} : OpR X (compareOp .In) (rInI X.K false) := by
  intro pins s σ H x y v u Q I rx ry h
  obtain ⟨p, i, ns, rfl, rfl, hp, q⟩ := h
  exact op_in_seq pins s σ H _ _ v u Q I rx ry ⟨p, _, rfl, hp, rfl, flat_ints ns, by rw [in_ints]; exact q⟩
theorem op_notInI {X : Cx} : OpR X (compareOp .NotIn) (rInI X.K true) := by
  intro pins s σ H x y v u Q I rx ry h
  obtain ⟨p, i, ns, rfl, rfl, hp, q⟩ := h
  exact op_notIn_seq pins s σ H _ _ v u Q I rx ry ⟨p, _, rfl, hp, rfl, flat_ints ns, by rw [in_ints]; exact q⟩
theorem rd_inI {K : PySem.W.Frag} {neg : Bool} {x y : V} {H : Hp} {Q : VK} : rInI K neg x y H Q = ∃ (p : Addr) (i : Int) (ns : List Int), x = .int i ∧ y = .ref p ∧ (SqL K H p (ns.map V.int) ∨ SqT K H p (ns.map V.int)) ∧ Q (.bl (if neg then !decide (i ∈ ns) else decide (i ∈ ns))) H := rfl
def rIdxI (K : PySem.W.Frag) : V → List V → Hp → VK → Prop := fun x vs H Q => ∃ (a : Addr) (ns : List Int) (y : Int) (j : Nat), x = .ref a ∧ vs = [.int y] ∧ SqL K H a (ns.map V.int) ∧ ns[j]? = some y ∧ (∀ m, m < j → ns[m]? ≠ some y) ∧ Q (.int (j : Nat)) H
theorem mt_idxI {X : Cx} : MtR X "list.index" (rIdxI X.K) := by
  intro pins s σ H x vs v us Q I rx rv h
  obtain ⟨a, ns, y, j, rfl, rfl, hp, hj, hm, q⟩ := h
  refine mt_index pins s σ H _ _ v us Q I rx rv ⟨a, _, _, j, .int y, rfl, rfl, hp, rfl, flat_ints ns, by rw [List.getElem?_map, hj]; rfl, by rw [eqV_int, decide_eq_true rfl], fun m z hm' hz => ?_, q⟩
  rw [List.getElem?_map] at hz
  obtain ⟨n, hn, rfl⟩ := Option.map_eq_some_iff.mp hz
  rw [eqV_int, decide_eq_false (fun e => hm m hm' (by rw [hn, e]))]
theorem rd_idxI {K : PySem.W.Frag} {to : TE} {t : TA} {σ : L2.St} {H : Hp} {Q : VK} : tBM K "list" (rIdxI K) to t σ H Q = to σ H fun x H1 => tyV K "list" x H1 ∧ t σ H1 fun vs H2 => ∃ (a : Addr) (ns : List Int) (y : Int) (j : Nat), x = .ref a ∧ vs = [.int y] ∧ SqL K H2 a (ns.map V.int) ∧ ns[j]? = some y ∧ (∀ m, m < j → ns[m]? ≠ some y) ∧ Q (.int (j : Nat)) H2 := rfl
theorem cr_isiK {X : Cx} {K : PySem.W.Frag} (h : X.K = K) : CallR X (.builtin "isinstance") (rIsi K) := by
  subst h
  exact call_isi
end CB
namespace CB
open PySem PySem.Spec PyProof.Rows L2
def rRepS : R2 := fun x y H Q => ∃ (z : Str) (k : Nat), x = .str z ∧ y = .int k ∧ z.length ≤ 100 ∧ k ≤ 100 ∧ ∀ z', Q (.str z') H
theorem op_repS {X : Cx} : OpR X (binaryOp .Mult) rRepS := by
  intro pins s σ H x y v u Q I rx ry h
  obtain ⟨z, k, rfl, rfl, hz, hk, q⟩ := h
  obtain ⟨t, rfl⟩ := rx
  obtain ⟨t', rfl⟩ := ry
  have hlk : z.length * k ≤ 10000 := Nat.mul_le_mul hz hk
  refine PySem.P.mul_str ?_ (fun h1 _ => ?_) (fun h1 _ => ?_) ?_
  · rw [decide_eq_false (by omega), decide_eq_false (by omega)]; rfl
  · have : (100 : Int) ≤ (2 ^ 63 - 1) / (k : Int) := by
      refine (Int.le_ediv_iff_mul_le (by omega)).mpr ?_
      omega
    omega
  · show decide (z.length * (k : Int).toNat > sizeLine) = false
    rw [Int.toNat_natCast]
    refine decide_eq_false ?_
    have := PySem.sizeLine_eq
    omega
  · have hl : PySem.Builtin.Str.tooLong (z.length * (k : Int).toNat) = false := by
      show decide (z.length * (k : Int).toNat > sizeLine) = false
      rw [Int.toNat_natCast]
      refine decide_eq_false ?_
      have := PySem.sizeLine_eq
      omega
    split
    · exact ⟨by decide, .str Str.empty, H, I.tok _, ⟨_, rfl⟩, q _⟩
    · split
      · exact ⟨.str z, H, I, ⟨_, rfl⟩, q _⟩
      · exact ⟨PySem.fits_reps hl, .str _, H, I.tok _, ⟨_, rfl⟩, q _⟩
end CB
namespace L02
open PySem PySem.Spec PyProof.Rows L2 CB
def top (i : Nat) : Stmt := PySem.Challenge.pw_classledger_k14_rows_and_kernels.main.body.getD i (.Pass ⟨0, 0, 0, 0⟩)
structure Bl (mg : Str → Option Value) : Prop where
  abs : mg "abs" = none
  int : mg "int" = none
  bool : mg "bool" = none
  str : mg "str" = none
  tuple : mg "tuple" = none
  list : mg "list" = none
  min : mg "min" = none
  sum : mg "sum" = none
  range : mg "range" = none
  isinstance : mg "isinstance" = none
  len : mg "len" = none
  all : mg "all" = none
  any : mg "any" = none
  zip : mg "zip" = none
  enumerate : mg "enumerate" = none
  reversed : mg "reversed" = none
local macro_rules | `(tactic| walk_at "rd") => `(tactic| simp (maxSteps := 2000000) only [CB.rd_var, CB.rd_C, CB.rd_op, CB.rd_un, CB.rd_I, CB.rd_I0, CB.rd_U, CB.rd_Eq, CB.rd_Ne, CB.rd_test, CB.rd_B, CB.rd_and, CB.rd_or, CB.rd_not, CB.rd_andV, CB.rd_orV, CB.rd_notV, CB.rd_if, CB.rd_chain, CB.rd_chain3,
  CB.rd_next, CB.rd_seq, CB.rd_drop, CB.rd_ret, CB.rd_retN, CB.rd_break, CB.rd_cont, CB.rd_ifS, CB.rd_asg, CB.rd_name, CB.rd_gsub, CB.rd_gtup, CB.rd_gcons, CB.rd_gnil, CB.rd_par, CB.rd_aug, CB.rd_ipI, CB.rd_nil, CB.rd_cons, CB.rd_tup, CB.rd_lst, CB.rd_CB, CB.rd_call, CB.rd_callS, CB.rd_ixL, CB.rd_ixT, CB.rd_setL, CB.rd_putS, CB.rd_forZ, CB.rd_lcZ, CB.rd_forE, CB.rd_forEL, CB.rd_lcE, CB.rd_isqrt, CB.rd_sum, CB.rd_append, CB.rd_forL, CB.rd_forT, CB.rd_forR1, CB.rd_forR2, CB.rd_forR3, CB.rd_lcL, CB.rd_lcT, CB.rd_lcR1, CB.rd_lcR2, CB.rd_yes, CB.rd_sl, CB.rd_noPart, CB.rd_part, CB.rd_slL, CB.rd_wipe0, CB.rd_rep, CB.rd_tupOf, CB.rd_lenS, CB.rd_gcd, CB.rd_wipe1, CB.rd_sorted3, CB.rd_any, CB.rd_all, CB.rd_ext, CB.rd_glst, CB.rd_sortedM, CB.rd_minD, CB.rd_indexD, CB.rd_pop, CB.rd_dnew, CB.rd_dget, CB.rd_dget2, CB.rd_dput, CB.rd_dm, CB.rd_anyI, CB.rd_ixDC, CB.rd_inDC, CB.rd_cat, CB.rd_lcZR, CB.rd_revR1, CB.rd_max2, CB.rd_forRv, CB.rd_ins, CB.rd_revT, CB.rd_listOf, CB.rd_inI, CB.rd_idxI,
  L2.start, List.map_cons, List.map_nil, List.length_cons, List.length_nil, Nat.reduceAdd, Nat.reduceSub, List.replicate_succ, List.replicate_zero,
  V.int.injEq, V.ref.injEq, V.bl.injEq, V.str.injEq, Option.some.injEq, List.cons.injEq, exists_and_left, exists_eq_left', exists_eq_left, reduceCtorEq, false_and, and_false, or_false, false_or, exists_false, exists_const, and_assoc, true_and, and_true,
  CB.scal_int, CB.scal_str, CB.dec_ii, CB.ite_dec, CB.ite_ndec, List.getElem?_cons_zero, List.getElem?_cons_succ, List.set_cons_zero, List.set_cons_succ, List.append_nil, List.cons_append, List.nil_append, if_true, if_false, Bool.false_eq_true, Bool.not_true, Bool.not_false, CB.K_nox, CB.K_cxOf, eq_self])
local macro_rules | `(tactic| walk_at "rs") => `(tactic| simp (maxSteps := 2000000) only [CB.rd_var, CB.rd_C, CB.rd_op, CB.rd_un, CB.rd_I, CB.rd_I0, CB.rd_U, CB.rd_Eq, CB.rd_Ne, CB.rd_test, CB.rd_B, CB.rd_and, CB.rd_or, CB.rd_not, CB.rd_andV, CB.rd_orV, CB.rd_notV, CB.rd_if, CB.rd_chain, CB.rd_chain3,
  CB.rd_next, CB.rd_drop, CB.rd_ret, CB.rd_retN, CB.rd_break, CB.rd_cont, CB.rd_ifS, CB.rd_asg, CB.rd_name, CB.rd_gsub, CB.rd_gtup, CB.rd_gcons, CB.rd_gnil, CB.rd_par, CB.rd_aug, CB.rd_ipI, CB.rd_nil, CB.rd_cons, CB.rd_tup, CB.rd_lst, CB.rd_CB, CB.rd_call, CB.rd_callS, CB.rd_ixL, CB.rd_ixT, CB.rd_setL, CB.rd_putS, CB.rd_forZ, CB.rd_lcZ, CB.rd_forE, CB.rd_forEL, CB.rd_lcE, CB.rd_isqrt, CB.rd_sum, CB.rd_append, CB.rd_forL, CB.rd_forT, CB.rd_forR1, CB.rd_forR2, CB.rd_forR3, CB.rd_lcL, CB.rd_lcT, CB.rd_lcR1, CB.rd_lcR2, CB.rd_yes, CB.rd_sl, CB.rd_noPart, CB.rd_part, CB.rd_slL, CB.rd_wipe0, CB.rd_rep, CB.rd_tupOf, CB.rd_lenS, CB.rd_gcd, CB.rd_wipe1, CB.rd_sorted3, CB.rd_any, CB.rd_all, CB.rd_ext, CB.rd_glst, CB.rd_sortedM, CB.rd_minD, CB.rd_indexD, CB.rd_pop, CB.rd_dnew, CB.rd_dget, CB.rd_dget2, CB.rd_dput, CB.rd_dm, CB.rd_anyI, CB.rd_ixDC, CB.rd_inDC, CB.rd_cat, CB.rd_lcZR, CB.rd_revR1, CB.rd_max2, CB.rd_forRv, CB.rd_ins, CB.rd_revT, CB.rd_listOf, CB.rd_inI, CB.rd_idxI,
  L2.start, List.map_cons, List.map_nil, List.length_cons, List.length_nil, Nat.reduceAdd, Nat.reduceSub, List.replicate_succ, List.replicate_zero,
  V.int.injEq, V.ref.injEq, V.bl.injEq, V.str.injEq, Option.some.injEq, List.cons.injEq, exists_and_left, exists_eq_left', exists_eq_left, reduceCtorEq, false_and, and_false, or_false, false_or, exists_false, exists_const, and_assoc, true_and, and_true,
  CB.scal_int, CB.scal_str, CB.dec_ii, CB.ite_dec, CB.ite_ndec, List.getElem?_cons_zero, List.getElem?_cons_succ, List.set_cons_zero, List.set_cons_succ, List.append_nil, List.cons_append, List.nil_append, if_true, if_false, Bool.false_eq_true, Bool.not_true, Bool.not_false, CB.K_nox, CB.K_cxOf, eq_self])

local macro_rules | `(tactic| walk_at "nx") => `(tactic| (show tSeq _ _ _ _ _; rw [CB.rd_seq]; walk_at "rs"))


section
variable {P : Program} {w : World} {K : PySem.W.Frag} {mg : Str → Option Value} {base : Heap}
/-! ### the draws -/
abbrev s__law_take : Stmt := top 21
theorem sc__law_take : FnScope ["state", "m", "value"] ["state", "m"] (defScope s__law_take) := ⟨rfl, rfl, rfl, by decide +kernel, rfl, by decide +kernel, by decide +kernel⟩

def spTake : Sp := fun vs H Q _ => ∃ (a : Addr) (x y m : Int), vs = [.ref a, .int m] ∧ H a = some (.lst [.int x, .int y]) ∧ 0 < m ∧ m.natAbs.log2 < 9000 ∧
  ∀ v x' y' : Int, 0 ≤ v → v < m → Q (.int v) (upd H a (.lst [.int x', .int y']))
theorem cal_take (D : Dn K mg "_law_take" s__law_take ["state", "m"]) (B : Bl mg) : Cal P w K mg base "_law_take" 1 ["state", "m"] spTake := by
  refine D.cal sc__law_take (fun vs H Q E h => ?_) (fun f cdv A outer s H vs Q E hr h => ?_)
  · obtain ⟨a, x, y, m, rfl, _⟩ := h
    rfl
  · obtain ⟨a, x, y, m, rfl, ha, hm, hz, q⟩ := h
    refine ⟨_, (pss_cons (ps_if (pt_cmpR op_gt (pe_ix ix_list (pv 0) pe_int (fun _ _ => rfl)) pe_int (nomark _)) (pss_cons (ps_set (i := 2) sc__law_take.nd rfl (Or.inl rfl) (pe_op op_mod (pe_callTy call_int1 rfl B.int boot_int (pa_cons (pe_ix ix_list (pv 0) pe_int (fun _ _ => rfl)) pa_nil)) (pv 1)))
  (pss_cons (ps_asg (pe_op op_fdivW (pe_ix ix_list (pv 0) pe_int (fun _ _ => rfl)) (pv 1)) (pg_sub (pv 0) pe_int set_list))
  (pss_one (ps_ret (pv 2))))) pss_nil)
  (pss_cons (ps_asg (pe_op op_mod (pe_callTy call_int1 rfl B.int boot_int (pa_cons (pe_op op_add (pe_op op_mulI (pe_ix ix_list (pv 0) pe_int (fun _ _ => rfl)) pe_int) pe_int) pa_nil)) pe_int) (pg_sub (pv 0) pe_int set_list))
  (pss_one (ps_ret (pe_op op_mod (pe_callTy call_int1 rfl B.int boot_int (pa_cons (pe_op op_fdivW (pe_ix ix_list (pv 0) pe_int (fun _ _ => rfl)) pe_int) pa_nil)) (pv 1)))))), ?_⟩
    walk_at "rd"
    refine ⟨_, SqL.of ha, _, rfl, _, rfl, ite2 (fun h => ?_) (fun h => ?_)⟩
    · refine ⟨_, SqL.of ha, _, rfl, .inl ⟨_, rfl, hm, _, SqL.of ha, _, rfl, _, rfl, ⟨hm, hz⟩, _, ha, _, rfl, ?_⟩⟩
      exact q _ _ _ (Int.emod_nonneg _ (by omega)) (Int.emod_lt_of_pos _ hm)
    · refine ⟨_, SqL.of ha, _, rfl, _, rfl, mulR (by decide), by decide, _, ha, _, rfl, _, SqL.of upd_same, _, rfl, _, rfl, ⟨by decide, by decide +kernel⟩, hm, ?_⟩
      exact q _ _ _ (Int.emod_nonneg _ (by omega)) (Int.emod_lt_of_pos _ hm)
abbrev s__law_state : Stmt := top 20
theorem sc__law_state : FnScope ["script", "seed", "total", "cell"] ["script"] (defScope s__law_state) := ⟨rfl, rfl, rfl, by decide +kernel, rfl, by decide +kernel, by decide +kernel⟩

def spState (K : PySem.W.Frag) : Sp := fun vs H Q _ => ∃ (a : Addr) (ns : List Int), vs = [.ref a] ∧ SqL K H a (ns.map V.int) ∧ ns.length ≤ 63 ∧
  ∀ (p : Addr) (x y : Int) (H' : Hp), Same H H' → H p = none → H' p = some (.lst [.int x, .int y]) → Q (.ref p) H'
theorem cutV63 {ns : List Int} (h : ns.length ≤ 63) : cutV (ns.map V.int) none (some 63) = ns.map V.int := by
  unfold cutV
  rw [HT.sIx_none, show HT.sIx (ns.map V.int).length (ns.map V.int).length (some 63) = min 63 (ns.map V.int).length from HT.sIx_nat _ _ 63, List.length_map, List.drop_zero]
  rw [show min 63 ns.length - 0 = (ns.map V.int).length by rw [List.length_map]; omega, List.take_length]
theorem cal_state (D : Dn K mg "_law_state" s__law_state ["script"]) (B : Bl mg) : Cal P w K mg base "_law_state" 1 ["script"] (spState K) := by
  refine D.cal sc__law_state (fun vs H Q E h => ?_) (fun f cdv A outer s H vs Q E hr h => ?_)
  · obtain ⟨a, ns, rfl, _⟩ := h
    rfl
  · obtain ⟨a, ns, rfl, hS, hl, q⟩ := h
    refine ⟨_, (pss_cons (ps_set (i := 1) sc__law_state.nd rfl (Or.inl rfl) pe_int)
  (pss_cons (ps_set (i := 2) sc__law_state.nd rfl (Or.inl rfl) pe_int)
  (pss_cons (ps_for PassesOwn.never rfl (pi_list (pe_slice sl_list (pv 0) po_none (po_some pe_int))) (pg_name (i := 3) sc__law_state.nd rfl (Or.inl rfl)) (pss_cons (ps_set (i := 1) sc__law_state.nd rfl (Or.inl rfl) (pe_op op_add (pe_op op_mulI (pv 1) pe_int) (pe_callB call_abs rfl B.abs (by decide +kernel) (pa_cons (pv 3) pa_nil))))
  (pss_one (ps_set (i := 2) sc__law_state.nd rfl (Or.inl rfl) (pe_op op_mod (pe_callTy call_int1 rfl B.int boot_int (pa_cons (pe_op op_add (pe_op op_mulI (pv 2) pe_int) (pv 3)) pa_nil)) pe_int)))))
  (pss_one (ps_ret (pe_lst (pa_cons (pv 1) (pa_cons (pv 2) pa_nil)))))))), ?_⟩
    walk_at "rd"
    refine ⟨_, hS, fun c nc => ?_⟩
    rw [cutV63 hl]
    have hc : SqL K (upd H c (.lst (ns.map V.int))) c (ns.map V.int) := SqL.of upd_same
    refine ⟨⟨_, hc⟩, ForL.mk (xs := ns.map V.int) (fun _ σ H' => ∃ x y z, σ = [some (.ref a), some (.int x), some (.int y), z] ∧ H' = upd H c (.lst (ns.map V.int))) ⟨_, _, _, rfl, rfl⟩ ?_ ?_ ?_⟩
    · rintro i σ H' _ ⟨x, y, z, rfl, rfl⟩
      exact hc
    · rintro i v σ H' hv ⟨x, y, z, rfl, rfl⟩
      rw [List.getElem?_map] at hv
      obtain ⟨n, _, rfl⟩ := Option.map_eq_some_iff.mp hv
      walk_at "rd"
      exact ⟨mulR (by decide), mulR (by decide), by decide, _, rfl⟩
    · rintro σ H' ⟨x, y, z, rfl, rfl⟩
      walk_at "rd"
      refine ⟨by decide, fun p np => q p x y _ ((same_upd nc).trans (same_upd np)) ((same_upd nc).free np) upd_same⟩
/-! ### kinds of values -/
def kinds : List String := ["int", "bool", "NoneType", "str", "tuple", "list"]
theorem kit_k {T c : String} (hT : T ∈ kinds) (hc : c ∈ ["int", "bool", "str", "tuple"]) : kitB T c = some (T == c || (T == "bool" && c == "int")) := by
  unfold kinds at hT
  simp only [List.mem_cons, List.not_mem_nil, or_false] at hT hc
  rcases hT with rfl | rfl | rfl | rfl | rfl | rfl <;> rcases hc with rfl | rfl | rfl | rfl <;> decide +kernel
end

section
variable {P : Program} {w : World} {K : PySem.W.Frag} {mg : Str → Option Value} {base : Heap} {CM CR : Addr}
/-! ### values of any kind, told by the heap -/
/-- tuples are kept, and all lists but the one at st -/
def Kp (st : Addr) (H H' : Hp) : Prop := (∀ b us, H b = some (.tup us) → H' b = some (.tup us)) ∧ ∀ b us, b ≠ st → H b = some (.lst us) → H' b = some (.lst us)
/-- all but the list at st is kept -/
def But (st : Addr) (H H' : Hp) : Prop := ∀ b o, b ≠ st → H b = some o → H' b = some o
theorem But.refl {st : Addr} {H : Hp} : But st H H := fun _ _ _ e => e
theorem But.trans {st : Addr} {H H1 H2 : Hp} (a : But st H H1) (b : But st H1 H2) : But st H H2 := fun c o n e => b c o n (a c o n e)
theorem But.same {st : Addr} {H H1 H2 : Hp} (a : But st H H1) (b : Same H1 H2) : But st H H2 := fun c o n e => b c o (a c o n e)
theorem But.of {st : Addr} {H H1 : Hp} (b : Same H H1) : But st H H1 := fun c o n e => b c o e
theorem But.upd {st : Addr} {H H1 : Hp} {o : HO} (a : But st H H1) : But st H (upd H1 st o) := fun c o n e => by
  rw [upd_ne n]
  exact a c o n e
theorem Kp.refl {st : Addr} {H : Hp} : Kp st H H := ⟨fun _ _ e => e, fun _ _ _ e => e⟩
theorem Kp.of {st : Addr} {H H' : Hp} (s : Same H H') : Kp st H H' := ⟨fun _ _ e => s _ _ e, fun _ _ _ e => s _ _ e⟩
theorem But.kp {st : Addr} {H H' : Hp} {l : List V} (s : But st H H') (hs : H st = some (.lst l)) : Kp st H H' := ⟨fun _ _ e => s _ _ (ne_of e hs (by intro z; cases z)) e, fun _ _ n e => s _ _ n e⟩
theorem Kp.trans {st : Addr} {H H1 H2 : Hp} (a : Kp st H H1) (b : Kp st H1 H2) : Kp st H H2 := ⟨fun _ _ e => b.1 _ _ (a.1 _ _ e), fun _ _ n e => b.2 _ _ n (a.2 _ _ n e)⟩
def kdV : V → String
  | .bl _ => "bool"
  | .non => "NoneType"
  | .str _ => "str"
  | _ => "int"
def flV : V → Bool
  | .int _ => true
  | .bl _ => true
  | .non => true
  | .str _ => true
  | _ => false
/-- v is of the kind T -/
def KdH (st : Addr) (H : Hp) (v : V) (T : String) : Prop := (flV v = true ∧ T = kdV v) ∨ ∃ p, v = .ref p ∧ ((p ≠ st ∧ T = "list" ∧ ∃ l, H p = some (.lst l)) ∨ (T = "tuple" ∧ ∃ l, H p = some (.tup l)))
theorem KdH.ty {st : Addr} {H : Hp} {v : V} {T : String} (h : KdH st H v T) : TyX K H v (.type T) ∧ T ∈ kinds := by
  rcases h with ⟨hf, rfl⟩ | ⟨p, rfl, ⟨_, rfl, l, e⟩ | ⟨rfl, l, e⟩⟩
  · cases v with
    | int n => exact ⟨.base (.int _), by show "int" ∈ kinds; decide⟩
    | bl b => exact ⟨.base (.bl _), by show "bool" ∈ kinds; decide⟩
    | non => exact ⟨.base .non, by show "NoneType" ∈ kinds; decide⟩
    | str s => exact ⟨.base (.str _), by show "str" ∈ kinds; decide⟩
    | _ => cases hf
  · exact ⟨.base (.lst e), by decide⟩
  · exact ⟨.base (.tup e), by decide⟩
theorem KdH.kp {st : Addr} {H H' : Hp} {v : V} {T : String} (s : Kp st H H') (h : KdH st H v T) : KdH st H' v T := by
  rcases h with h | ⟨p, rfl, ⟨n, rfl, l, e⟩ | ⟨rfl, l, e⟩⟩
  · exact .inl h
  · exact .inr ⟨p, rfl, .inl ⟨n, rfl, l, s.2 _ _ n e⟩⟩
  · exact .inr ⟨p, rfl, .inr ⟨rfl, l, s.1 _ _ e⟩⟩
def ItsH (st : Addr) (H : Hp) (xs : List V) (ts : List String) : Prop := ts.length = xs.length ∧ ∀ (i : Nat) (x : V) (t : String), xs[i]? = some x → ts[i]? = some t → KdH st H x t
theorem ItsH.kp {st : Addr} {H H' : Hp} {xs : List V} {ts : List String} (s : Kp st H H') (h : ItsH st H xs ts) : ItsH st H' xs ts := ⟨h.1, fun i x t hx ht => (h.2 i x t hx ht).kp s⟩
theorem itsH_flat {st : Addr} {H : Hp} {xs : List V} (h : xs.all flV = true) : ItsH st H xs (xs.map kdV) := by
  refine ⟨List.length_map _, fun i x t hx ht => ?_⟩
  rw [List.getElem?_map, hx] at ht
  cases ht
  exact .inl ⟨List.all_eq_true.mp h x (List.mem_of_getElem? hx), rfl⟩
theorem itsH_one {st : Addr} {H : Hp} {p : Addr} {xs : List V} (h : H p = some (.tup xs)) : ItsH st H [V.ref p] ["tuple"] := by
  refine ⟨rfl, fun i x t hx ht => ?_⟩
  match i, hx, ht with
  | 0, hx, ht =>
    cases hx
    cases ht
    exact .inr ⟨p, rfl, .inr ⟨rfl, _, h⟩⟩
  | n + 1, hx, ht => simp at hx
/-- no row of n integers -/
def BadH (n : Nat) (st : Addr) (H : Hp) (v : V) : Prop := (∃ T, KdH st H v T ∧ (T == "tuple") = false) ∨ ∃ (p : Addr) (xs : List V) (ts : List String), v = .ref p ∧ H p = some (.tup xs) ∧ ItsH st H xs ts ∧ xs.length < 1000 ∧ (xs.length ≠ n ∨ ts.all (· == "int") = false)
theorem BadH.kp {n : Nat} {st : Addr} {H H' : Hp} {v : V} (s : Kp st H H') (h : BadH n st H v) : BadH n st H' v := by
  rcases h with ⟨T, h, e⟩ | ⟨p, xs, ts, rfl, hp, hI, hl, hb⟩
  · exact .inl ⟨T, h.kp s, e⟩
  · exact .inr ⟨p, xs, ts, rfl, s.1 _ _ hp, hI.kp s, hl, hb⟩
end

/-! ### whole roots -/
def isq (n : Int) : Int := ((Float64.isqrt n.toNat : Nat) : Int)
theorem isq_nn (n : Int) : 0 ≤ isq n := Int.natCast_nonneg _
theorem isq_le {n : Int} (h : 0 ≤ n) : isq n * isq n ≤ n := by
  have a := (isqrt_spec n.toNat).1
  have b : ((Float64.isqrt n.toNat * Float64.isqrt n.toNat : Nat) : Int) ≤ ((n.toNat : Nat) : Int) := Int.ofNat_le.mpr a
  rw [Int.natCast_mul] at b
  unfold isq
  omega
theorem isq_lt {n : Int} (h : 0 ≤ n) : n < (isq n + 1) * (isq n + 1) := by
  have a := (isqrt_spec n.toNat).2
  have b : ((n.toNat : Nat) : Int) < (((Float64.isqrt n.toNat + 1) * (Float64.isqrt n.toNat + 1) : Nat) : Int) := Int.ofNat_lt.mpr a
  rw [Int.natCast_mul, Int.natCast_add] at b
  unfold isq
  have e : ((1 : Nat) : Int) = 1 := rfl
  rw [e] at b
  omega
theorem sq_lt {r s : Int} (hr : 0 ≤ r) (h : r * r < (s + 1) * (s + 1)) (hs : 0 ≤ s) : r ≤ s := by
  rcases Int.lt_or_le s r with q | q
  · have a : (s + 1) * (s + 1) ≤ r * r := Int.mul_le_mul (by omega) (by omega) (by omega) hr
    omega
  · exact q
theorem isq_uniq {n r : Int} (hr : 0 ≤ r) (h1 : r * r ≤ n) (h2 : n < (r + 1) * (r + 1)) : isq n = r := by
  have hn : 0 ≤ n := Int.le_trans (Int.mul_nonneg hr hr) h1
  have a := sq_lt hr (Int.lt_of_le_of_lt h1 (isq_lt hn)) (isq_nn n)
  have b := sq_lt (isq_nn n) (Int.lt_of_le_of_lt (isq_le hn) h2) hr
  omega
theorem isq_iff {n a : Int} (hn : 0 ≤ n) (ha : 0 ≤ a) : a * a ≤ n ↔ a ≤ isq n := by
  refine ⟨fun h => sq_lt ha (Int.lt_of_le_of_lt h (isq_lt hn)) (isq_nn n), fun h => ?_⟩
  exact Int.le_trans (Int.mul_le_mul h h ha (isq_nn n)) (isq_le hn)
theorem isq_self {n : Int} (h0 : 0 ≤ n) (h : n < 2) : isq n = n := by
  have e : n = 0 ∨ n = 1 := by omega
  rcases e with rfl | rfl
  · exact isq_uniq (by omega) (by omega) (by omega)
  · exact isq_uniq (by omega) (by omega) (by omega)
theorem isq_bd {n c : Int} (hn : 0 ≤ n) (hc : 0 ≤ c) (h : n < (c + 1) * (c + 1)) : isq n ≤ c := sq_lt (isq_nn n) (Int.lt_of_le_of_lt (isq_le hn) h) hc
/-- a bound that omega doesn't read -/
def BIG : Int := 2 ^ 3000
theorem BIG_pos : 1000000000000 < BIG := by decide +kernel
theorem BIG_big : BIG < 2 ^ 13000 := by decide +kernel
theorem bigAbs {i : Int} (h1 : -(16 * BIG) < i) (h2 : i < 16 * BIG) : i.natAbs < 2 ^ 3004 := by
  have e : (16 * BIG : Int) = ((2 ^ 3004 : Nat) : Int) := by decide +kernel
  rw [e] at h1 h2
  omega
theorem mulBig {i j : Int} (h1 : -(16 * BIG) < i) (h2 : i < 16 * BIG) (h3 : -(16 * BIG) < j) (h4 : j < 16 * BIG) : IntMulOk i j :=
  (wide_mul (bigAbs h1 h2) (bigAbs h3 h4) (by decide) (by decide) (by decide)).ok
theorem low_le {a n : Int} (h0 : 0 ≤ a) (h : a * a ≤ n) : a ≤ n := by
  rcases Int.lt_or_le 0 a with q | q
  · have := Int.mul_le_mul (show 1 ≤ a by omega) (Int.le_refl a) h0 h0
    omega
  · have e : a = 0 := by omega
    rw [e] at h
    omega
theorem small_size {n : Nat} (h : n ≤ 10000000) : n < sizeLine := by rw [PySem.sizeLine_eq]; omega
theorem iabs (i : Int) : (if i < 0 then -i else i) = (i.natAbs : Int) := by
  split <;> omega

section
variable {P : Program} {w : World} {K : PySem.W.Frag} {mg : Str → Option Value} {base : Heap}
abbrev s_is_integer : Stmt := top 1
theorem sc_is_integer : FnScope ["value"] ["value"] (defScope s_is_integer) := ⟨rfl, rfl, rfl, by decide +kernel, rfl, by decide +kernel, by decide +kernel⟩

def spInt (K : PySem.W.Frag) : Sp := fun vs H Q _ => ∃ (v : V) (T : String), vs = [v] ∧ TyX K H v (.type T) ∧ T ∈ kinds ∧ Q (.bl (T == "int")) H
theorem cal_is_integer (D : Dn K mg "is_integer" s_is_integer ["value"]) (B : Bl mg) : Cal P w K mg base "is_integer" 1 ["value"] (spInt K) := by
  refine D.cal sc_is_integer (fun vs H Q E h => ?_) (fun f cdv A outer s H vs Q E hr h => ?_)
  · obtain ⟨v, T, rfl, _⟩ := h
    rfl
  · obtain ⟨v, T, rfl, ty, hT, q⟩ := h
    refine ⟨_, (pss_one (ps_ret (pe_and (pe_callB call_isi rfl B.isinstance (by decide +kernel) (pa_cons (pv 0) (pa_cons (pe_bltn (v := .ty "int") rfl B.int boot_int rfl) pa_nil))) (pe_one (pe_not (pe_callB call_isi rfl B.isinstance (by decide +kernel) (pa_cons (pv 0) (pa_cons (pe_bltn (v := .ty "bool") rfl B.bool boot_bool rfl) pa_nil)))))))), ?_⟩
    walk_at "rd"
    refine isi_mk ty (kit_k hT (by simp)) ⟨_, rfl, ite2 (fun h => ?_) (fun h => ?_)⟩
    · refine isi_mk ty (kit_k hT (by simp)) ⟨_, rfl, ?_⟩
      rw [show (!(T == "bool" || (T == "bool" && "bool" == "int"))) = (T == "int") from ?_]
      · exact q
      · unfold kinds at hT
        simp only [List.mem_cons, List.not_mem_nil, or_false] at hT
        rcases hT with rfl | rfl | rfl | rfl | rfl | rfl <;> revert h <;> decide +kernel
    · rw [show false = (T == "int") from ?_]
      · exact q
      · unfold kinds at hT
        simp only [List.mem_cons, List.not_mem_nil, or_false] at hT
        rcases hT with rfl | rfl | rfl | rfl | rfl | rfl <;> revert h <;> decide +kernel
/-- the kinds of a row's items, now and later -/
def Its (K : PySem.W.Frag) (H : Hp) (xs : List V) (ts : List String) : Prop := ts.length = xs.length ∧ ∀ (i : Nat) (x : V) (t : String), xs[i]? = some x → ts[i]? = some t → (∀ H', Same H H' → TyX K H' x (.type t)) ∧ t ∈ kinds
/-- no tuple -/
def NoTup (K : PySem.W.Frag) (H : Hp) (v : V) : Prop := ∃ T, TyX K H v (.type T) ∧ T ∈ kinds ∧ (T == "tuple") = false
abbrev s_is_row : Stmt := top 4
theorem sc_is_row : FnScope ["value", "n", "item"] ["value", "n"] (defScope s_is_row) := ⟨rfl, rfl, rfl, by decide +kernel, rfl, by decide +kernel, by decide +kernel⟩

def spRow (K : PySem.W.Frag) : Sp := fun vs H Q _ => ∃ (v : V) (n : Nat), vs = [v, .int (n : Int)] ∧
  ((NoTup K H v ∧ Q (.bl false) H) ∨
   ∃ (p : Addr) (xs : List V) (ts : List String), v = .ref p ∧ H p = some (.tup xs) ∧ Its K H xs ts ∧ xs.length < 1000 ∧ ∀ H', Same H H' → Q (.bl (decide (xs.length = n) && ts.all (· == "int"))) H')
theorem cal_row (D : Dn K mg "is_row" s_is_row ["value", "n"]) (B : Bl mg) (c_is_integer : Cal P w K mg base "is_integer" 1 ["value"] (spInt K)) : Cal P w K mg base "is_row" 2 ["value", "n"] (spRow K) := by
  refine D.cal sc_is_row (fun vs H Q E h => ?_) (fun f cdv A outer s H vs Q E hr h => ?_)
  · obtain ⟨v, n, rfl, _⟩ := h
    rfl
  · obtain ⟨v, n, rfl, h⟩ := h
    refine ⟨_, (pss_one (ps_ret (pe_and (pe_callB call_isi rfl B.isinstance (by decide +kernel) (pa_cons (pv 0) (pa_cons (pe_bltn (v := .ty "tuple") rfl B.tuple boot_tuple rfl) pa_nil))) (pe_and (pe_cmpR op_eq (pe_callB cr_lenS rfl B.len (by decide +kernel) (pa_cons (pv 0) pa_nil)) (pv 1) (nomark _)) (pe_one (pe_callB (cr_all rfl) rfl B.all (by decide +kernel) (pa_cons (pe_lc (own := [("item", 2)]) rfl sc_is_row.nd (pi_tup (pv 0)) (blkOk_by (N := ["value", "n", "item"]) (sc := defScope s_is_row) (own := [("item", 2)]) (by decide +kernel)) (fun _ _ _ _ _ => (pg_name (i := 2) sc_is_row.nd rfl (Or.inl rfl))) (fun _ _ _ _ _ => pts_nil) (fun _ _ _ _ _ => (pe_cal c_is_integer (hr.mono (by decide)) rfl (pa_cons (pv 2) pa_nil)))) pa_nil))))))), ?_⟩
    walk_at "rd"
    rcases h with ⟨⟨T, ty, hT, hi⟩, q⟩ | ⟨p, xs, ts, rfl, hp, ⟨hl, hty⟩, hx, q⟩
    · refine isi_mk ty (kit_k hT (by simp)) ⟨false, ?_, ?_⟩
      · rw [hi, show ("tuple" == "int") = false by decide, Bool.and_false, Bool.or_false]
      rw [if_neg Bool.false_ne_true]
      exact q
    · refine isi_mk (.base (.tup hp)) (b := true) (by decide +kernel) ⟨true, rfl, ?_⟩
      rw [if_pos rfl]
      refine ⟨xs.length, .inr ⟨_, SqT.of hp, rfl⟩, ite2 (fun c => ?_) (fun c => ?_)⟩
      · have hc : xs.length = n := Int.ofNat_inj.mp c
        refine ⟨p, rfl, ⟨_, SqT.of hp⟩, LcT.w (xs := xs) (fun i D zs H3 => zs = ((ts.take i).map (· == "int")).map V.bl ∧ i ≤ xs.length ∧ Same H H3 ∧ H3 D = some (.lst zs) ∧ H D = none) (fun D nD => ⟨rfl, Nat.zero_le _, same_upd nD, upd_same, nD⟩) ?_ ?_ ?_⟩
        · rintro D i zs H3 _ ⟨_, _, sm, _, _⟩
          exact SqT.of (sm _ _ hp)
        · rintro D i x zs H3 hv ⟨rfl, hi, sm, hD, nD⟩ N hN
          have hix : i < xs.length := (List.getElem?_eq_some_iff.mp hv).1
          obtain ⟨t, ht⟩ : ∃ t, ts[i]? = some t := ⟨ts[i]'(by omega), List.getElem?_eq_getElem (by omega)⟩
          obtain ⟨ty, hk⟩ := hty i x t hv ht
          walk_at "rd"
          refine ⟨x, t, rfl, ty _ sm, hk, _, hD, ?_, hN _ _ ⟨?_, by omega, same_at sm nD, upd_same, nD⟩⟩
          · rw [List.length_map, List.length_map, List.length_take]
            exact small_size (by omega)
          · rw [List.take_add_one, ht, List.map_append, List.map_append]
            rfl
        · rintro D zs H3 nD ⟨rfl, _, sm, hD, _⟩
          rw [← hl, List.take_length] at hD
          refine ⟨D, rfl, _, SqL.of hD, ?_⟩
          have q' := q _ sm
          rw [decide_eq_true hc, Bool.true_and] at q'
          rw [List.all_map]
          exact q'
      · have q' := q _ (Same.refl H)
        rw [decide_eq_false (fun z => c (by rw [z])), Bool.false_and] at q'
        exact q'
end

local macro_rules | `(tactic| walk_at "rd") => `(tactic| simp (maxSteps := 2000000) only [CB.rd_var, CB.rd_C, CB.rd_op, CB.rd_un, CB.rd_I, CB.rd_I0, CB.rd_U, CB.rd_Eq, CB.rd_Ne, CB.rd_test, CB.rd_B, CB.rd_and, CB.rd_or, CB.rd_not, CB.rd_andV, CB.rd_orV, CB.rd_notV, CB.rd_if, CB.rd_chain, CB.rd_chain3,
  CB.rd_next, CB.rd_seq, CB.rd_drop, CB.rd_ret, CB.rd_retN, CB.rd_break, CB.rd_cont, CB.rd_ifS, CB.rd_asg, CB.rd_name, CB.rd_gsub, CB.rd_gtup, CB.rd_gcons, CB.rd_gnil, CB.rd_par, CB.rd_aug, CB.rd_ipI, CB.rd_nil, CB.rd_cons, CB.rd_tup, CB.rd_lst, CB.rd_CB, CB.rd_call, CB.rd_callS, CB.rd_ixL, CB.rd_ixT, CB.rd_setL, CB.rd_putS, CB.rd_forZ, CB.rd_lcZ, CB.rd_forE, CB.rd_forEL, CB.rd_lcE, CB.rd_isqrt, CB.rd_sum, CB.rd_append, CB.rd_forL, CB.rd_forT, CB.rd_forR1, CB.rd_forR2, CB.rd_forR3, CB.rd_lcL, CB.rd_lcT, CB.rd_lcR1, CB.rd_lcR2, CB.rd_yes, CB.rd_sl, CB.rd_noPart, CB.rd_part, CB.rd_slL, CB.rd_wipe0, CB.rd_rep, CB.rd_tupOf, CB.rd_lenS, CB.rd_gcd, CB.rd_wipe1, CB.rd_sorted3, CB.rd_any, CB.rd_all, CB.rd_ext, CB.rd_glst, CB.rd_sortedM, CB.rd_minD, CB.rd_indexD, CB.rd_pop, CB.rd_dnew, CB.rd_dget, CB.rd_dget2, CB.rd_dput, CB.rd_dm, CB.rd_anyI, CB.rd_ixDC, CB.rd_inDC, CB.rd_cat, CB.rd_lcZR, CB.rd_revR1, CB.rd_max2, CB.rd_forRv, CB.rd_ins, CB.rd_revT, CB.rd_listOf, CB.rd_inI, CB.rd_idxI,
  L2.start, List.map_cons, List.map_nil, List.length_cons, List.length_nil, Nat.reduceAdd, Nat.reduceSub, List.replicate_succ, List.replicate_zero,
  V.int.injEq, V.ref.injEq, V.bl.injEq, V.str.injEq, Option.some.injEq, List.cons.injEq, exists_and_left, exists_eq_left', exists_eq_left, reduceCtorEq, false_and, and_false, or_false, false_or, exists_false, exists_const, and_assoc, true_and, and_true,
  CB.scal_int, CB.scal_str, CB.dec_ii, CB.ite_dec, CB.ite_ndec, List.getElem?_cons_zero, List.getElem?_cons_succ, List.set_cons_zero, List.set_cons_succ, List.append_nil, List.cons_append, List.nil_append, if_true, if_false, Bool.false_eq_true, Bool.not_true, Bool.not_false, CB.K_nox, CB.K_cxOf, eq_self])
local macro_rules | `(tactic| walk_at "rs") => `(tactic| simp (maxSteps := 2000000) only [CB.rd_var, CB.rd_C, CB.rd_op, CB.rd_un, CB.rd_I, CB.rd_I0, CB.rd_U, CB.rd_Eq, CB.rd_Ne, CB.rd_test, CB.rd_B, CB.rd_and, CB.rd_or, CB.rd_not, CB.rd_andV, CB.rd_orV, CB.rd_notV, CB.rd_if, CB.rd_chain, CB.rd_chain3,
  CB.rd_next, CB.rd_drop, CB.rd_ret, CB.rd_retN, CB.rd_break, CB.rd_cont, CB.rd_ifS, CB.rd_asg, CB.rd_name, CB.rd_gsub, CB.rd_gtup, CB.rd_gcons, CB.rd_gnil, CB.rd_par, CB.rd_aug, CB.rd_ipI, CB.rd_nil, CB.rd_cons, CB.rd_tup, CB.rd_lst, CB.rd_CB, CB.rd_call, CB.rd_callS, CB.rd_ixL, CB.rd_ixT, CB.rd_setL, CB.rd_putS, CB.rd_forZ, CB.rd_lcZ, CB.rd_forE, CB.rd_forEL, CB.rd_lcE, CB.rd_isqrt, CB.rd_sum, CB.rd_append, CB.rd_forL, CB.rd_forT, CB.rd_forR1, CB.rd_forR2, CB.rd_forR3, CB.rd_lcL, CB.rd_lcT, CB.rd_lcR1, CB.rd_lcR2, CB.rd_yes, CB.rd_sl, CB.rd_noPart, CB.rd_part, CB.rd_slL, CB.rd_wipe0, CB.rd_rep, CB.rd_tupOf, CB.rd_lenS, CB.rd_gcd, CB.rd_wipe1, CB.rd_sorted3, CB.rd_any, CB.rd_all, CB.rd_ext, CB.rd_glst, CB.rd_sortedM, CB.rd_minD, CB.rd_indexD, CB.rd_pop, CB.rd_dnew, CB.rd_dget, CB.rd_dget2, CB.rd_dput, CB.rd_dm, CB.rd_anyI, CB.rd_ixDC, CB.rd_inDC, CB.rd_cat, CB.rd_lcZR, CB.rd_revR1, CB.rd_max2, CB.rd_forRv, CB.rd_ins, CB.rd_revT, CB.rd_listOf, CB.rd_inI, CB.rd_idxI,
  L2.start, List.map_cons, List.map_nil, List.length_cons, List.length_nil, Nat.reduceAdd, Nat.reduceSub, List.replicate_succ, List.replicate_zero,
  V.int.injEq, V.ref.injEq, V.bl.injEq, V.str.injEq, Option.some.injEq, List.cons.injEq, exists_and_left, exists_eq_left', exists_eq_left, reduceCtorEq, false_and, and_false, or_false, false_or, exists_false, exists_const, and_assoc, true_and, and_true,
  CB.scal_int, CB.scal_str, CB.dec_ii, CB.ite_dec, CB.ite_ndec, List.getElem?_cons_zero, List.getElem?_cons_succ, List.set_cons_zero, List.set_cons_succ, List.append_nil, List.cons_append, List.nil_append, if_true, if_false, Bool.false_eq_true, Bool.not_true, Bool.not_false, CB.K_nox, CB.K_cxOf, eq_self])

local macro_rules | `(tactic| walk_at "nx") => `(tactic| (show tSeq _ _ _ _ _; rw [CB.rd_seq]; walk_at "rs"))


/-! ### forms moved by matrices, products of matrices -/
section
variable {P : Program} {w : World} {K : PySem.W.Frag} {mg : Str → Option Value} {base : Heap} {CM CR : Addr}
/-- small enough for any product here -/
def Sz (n : Nat) (x : Int) : Prop := x.natAbs < 2 ^ n
theorem Sz.mul {m n : Nat} {x y : Int} (h : Sz m x) (h' : Sz n y) : Sz (m + n) (x * y) := by
  unfold Sz at *
  rw [Int.natAbs_mul, Nat.pow_add]
  exact Nat.mul_lt_mul'' h h'
theorem Sz.add {m : Nat} {x y : Int} (h : Sz m x) (h' : Sz m y) : Sz (m + 1) (x + y) := by
  unfold Sz at *
  rw [Nat.pow_succ]
  omega
theorem Sz.sub {m : Nat} {x y : Int} (h : Sz m x) (h' : Sz m y) : Sz (m + 1) (x - y) := by
  unfold Sz at *
  rw [Nat.pow_succ]
  omega
theorem Sz.neg {m : Nat} {x : Int} (h : Sz m x) : Sz m (-x) := by
  unfold Sz at *
  omega
theorem Sz.le {m n : Nat} {x : Int} (h : Sz m x) (hmn : m ≤ n) : Sz n x := Nat.lt_of_lt_of_le h (Nat.pow_le_pow_right (by decide) hmn)
theorem Sz.ok {m n : Nat} {x y : Int} (h : Sz m x) (h' : Sz n y) (hm : m ≤ 450000) (hn : n ≤ 450000) : IntMulOk x y :=
  (wide_mul (a := 450000) (b := 450000) (h.le hm) (h'.le hn) (by decide) (by decide) (by decide)).ok
theorem sz_lit : Sz 3 2 ∧ Sz 3 4 := by unfold Sz; decide
end

section
variable {P : Program} {w : World} {K : PySem.W.Frag} {mg : Str → Option Value} {base : Heap} {CM CR aU a1 a2 : Addr}
/-! ### division by any number -/
def CDivA (i j : Int) : Prop := j ≠ 0 ∧ j.natAbs.log2 < 9000
theorem op_fdivA {X : Cx} : OpR X (binaryOp .FloorDiv) (rI CDivA fun i j => .int (i.fdiv j)) := opI fun _ _ _ _ _ _ _ hc q => floordiv_int hc.1 q (.inl (PyProof.noPylong_of_log2 hc.2))
theorem divA {n : Nat} {i j : Int} (h : j ≠ 0) (s : Sz (n + 1) j) (hn : n < 9000) : CDivA i j := ⟨h, Nat.lt_of_le_of_lt (log_lt (k := n) s) hn⟩
end

section
variable {P : Program} {w : World} {K : PySem.W.Frag} {mg : Str → Option Value} {base : Heap} {CM CR aU a1 a2 : Addr}
/-! ### Euclid's steps, with signs -/
theorem fdiv_b {a b : Int} (hb : b ≠ 0) : (a - a.fdiv b * b).natAbs < b.natAbs ∧ 0 ≤ b * (a - a.fdiv b * b) ∧ (0 ≤ a * b → (a.fdiv b * b).natAbs + (a - a.fdiv b * b).natAbs = a.natAbs) := by
  have e := Int.emod_add_mul_ediv a b
  have r0 := Int.emod_nonneg a hb
  have r1 := Int.emod_lt a hb
  have key : ∃ r, a - a.fdiv b * b = r ∧ ((0 < b ∧ 0 ≤ r ∧ r < b) ∨ (b < 0 ∧ r ≤ 0 ∧ b < r)) := by
    refine ⟨_, rfl, ?_⟩
    rw [Int.fdiv_eq_ediv, Int.sub_mul, Int.mul_comm (a / b) b]
    by_cases h : 0 ≤ b ∨ b ∣ a
    · rw [if_pos h]
      rcases h with h | h
      · left
        omega
      · have := Int.emod_eq_zero_of_dvd h
        omega
    · rw [if_neg h]
      have nd : a % b ≠ 0 := fun z => h (.inr (Int.dvd_of_emod_eq_zero z))
      right
      omega
  obtain ⟨r, er, hr⟩ := key
  rw [er]
  have ek : a.fdiv b * b = a - r := by omega
  refine ⟨by omega, ?_, fun h => ?_⟩
  · rcases hr with ⟨x, y, _⟩ | ⟨x, y, _⟩
    · exact Int.mul_nonneg (by omega) y
    · exact Int.mul_nonneg_of_nonpos_of_nonpos (by omega) y
  · rw [ek]
    rcases hr with ⟨x, y, z⟩ | ⟨x, y, z⟩
    · have a0 : 0 ≤ a := by
        rcases Int.lt_or_le a 0 with c | c
        · have := Int.mul_neg_of_neg_of_pos c x
          omega
        · exact c
      have k0 : 0 ≤ a.fdiv b := by
        rw [Int.fdiv_eq_ediv_of_nonneg _ (by omega)]
        exact Int.ediv_nonneg a0 (by omega)
      have := Int.mul_nonneg k0 (show 0 ≤ b by omega)
      omega
    · have a0 : a ≤ 0 := by
        rcases Int.lt_or_le 0 a with c | c
        · have := Int.mul_neg_of_pos_of_neg c x
          omega
        · exact c
      have kb : a.fdiv b * b ≤ 0 := by
        rcases Int.lt_or_le (a.fdiv b) 0 with c | c
        · have c1 : 1 * (-b) ≤ (-(a.fdiv b)) * (-b) := Int.mul_le_mul_of_nonneg_right (by omega) (by omega)
          rw [Int.neg_mul_neg] at c1
          omega
        · have := Int.mul_nonneg c (show 0 ≤ -b by omega)
          rw [Int.mul_neg] at this
          omega
      omega
structure Eu (x y a b u v p q : Int) : Prop where
  ea : a = u * x + v * y
  eb : b = p * x + q * y
  de : u * q - v * p = 1 ∨ u * q - v * p = -1
  j : p.natAbs * a.natAbs + u.natAbs * b.natAbs ≤ y.natAbs
  sg : p = 0 ∨ (a ≠ 0 ∧ 0 ≤ a * b)
  y0 : y ≠ 0 ∨ b = 0
theorem Eu.p {x y a b u v p q : Int} (h : Eu x y a b u v p q) : p.natAbs ≤ y.natAbs := by
  have j := h.j
  rcases h.sg with z | ⟨z, _⟩
  · rw [z]; exact Nat.zero_le _
  · have : p.natAbs * 1 ≤ p.natAbs * a.natAbs := Nat.mul_le_mul_left _ (by omega)
    omega
theorem Eu.q {x y a b u v p q : Int} (h : Eu x y a b u v p q) (hb : b ≠ 0) : q.natAbs ≤ b.natAbs + p.natAbs * x.natAbs := by
  have hy : y ≠ 0 := h.y0.resolve_right hb
  have e : q * y = b - p * x := by have := h.eb; omega
  have m1 := Int.natAbs_mul q y
  have m2 := Int.natAbs_mul p x
  have : q.natAbs * 1 ≤ q.natAbs * y.natAbs := Nat.mul_le_mul_left _ (by omega)
  rw [e] at m1
  omega
theorem Eu.step {x y a b u v p q k : Int} (h : Eu x y a b u v p q) (hb : b ≠ 0) (hk : k = a.fdiv b) : Eu x y b (a - k * b) p q (u - k * p) (v - k * q) := by
  obtain ⟨f1, f2, f3⟩ := fdiv_b (a := a) hb
  rw [← hk] at f1 f2 f3
  obtain ⟨ea, eb, de, j, sg, y0⟩ := h
  refine ⟨eb, ?_, ?_, ?_, .inr ⟨hb, f2⟩, .inl (y0.resolve_right hb)⟩
  · have e1 : (u - k * p) * x = u * x - k * (p * x) := by rw [Int.sub_mul, Int.mul_assoc]
    have e2 : (v - k * q) * y = v * y - k * (q * y) := by rw [Int.sub_mul, Int.mul_assoc]
    have e3 : k * b = k * (p * x) + k * (q * y) := by rw [eb, Int.mul_add]
    omega
  · have e : p * (v - k * q) - q * (u - k * p) = -(u * q - v * p) := by
      have a1 : p * (v - k * q) = v * p - k * (p * q) := by grind
      have a2 : q * (u - k * p) = u * q - k * (p * q) := by grind
      omega
    rw [e]
    rcases de with z | z <;> rw [z]
    · right; rfl
    · left; rfl
  · have m1 : (u - k * p).natAbs ≤ u.natAbs + k.natAbs * p.natAbs := by
      have := Int.natAbs_mul k p
      omega
    have m2 : (u - k * p).natAbs * b.natAbs ≤ (u.natAbs + k.natAbs * p.natAbs) * b.natAbs := Nat.mul_le_mul_right _ m1
    rw [Nat.add_mul] at m2
    rcases sg with z | ⟨z, w⟩
    · subst z
      rw [Int.natAbs_zero, Nat.mul_zero, Nat.zero_mul] at m2
      rw [Int.natAbs_zero, Nat.zero_mul] at j ⊢
      omega
    · have f := f3 w
      rw [Int.natAbs_mul] at f
      have m3 : k.natAbs * p.natAbs * b.natAbs = p.natAbs * (k.natAbs * b.natAbs) := by
        rw [Nat.mul_comm k.natAbs, Nat.mul_assoc]
      have m4 : p.natAbs * a.natAbs = p.natAbs * (k.natAbs * b.natAbs) + p.natAbs * (a - k * b).natAbs := by rw [← f, Nat.mul_add]
      omega
theorem Eu.one {x y a u v p q s t : Int} (h : Eu x y a 0 u v p q) (hst : x * s - y * t = 1) : a = 1 ∨ a = -1 := by
  obtain ⟨ea, eb, de, _, _, _⟩ := h
  have hx : a ∣ x := by
    have e : q * a = (u * q - v * p) * x := by
      have : q * a = q * u * x + q * v * y - v * 0 := by rw [ea, Int.mul_zero]; grind
      rw [eb] at this
      rw [this]
      grind
    rcases de with z | z <;> rw [z] at e
    · exact ⟨q, by rw [Int.mul_comm]; omega⟩
    · exact ⟨-q, by rw [Int.mul_neg, Int.mul_comm]; omega⟩
  have hy : a ∣ y := by
    have e : p * a = -((u * q - v * p) * y) := by
      have : p * a = p * u * x + p * v * y - u * 0 := by rw [ea, Int.mul_zero]; grind
      rw [eb] at this
      rw [this]
      grind
    rcases de with z | z <;> rw [z] at e
    · exact ⟨-p, by rw [Int.mul_neg, Int.mul_comm]; omega⟩
    · exact ⟨p, by rw [Int.mul_comm]; omega⟩
  have h1 : a ∣ 1 := by
    rw [← hst]
    exact Int.dvd_sub (Int.dvd_mul_of_dvd_left hx) (Int.dvd_mul_of_dvd_left hy)
  have := Int.natAbs_dvd_natAbs.mpr h1
  have h2 : a.natAbs ∣ 1 := this
  have h3 := Nat.dvd_one.mp h2
  omega
end

/-! ### the bits of this law's rows -/
def bb : Nat := 18
def mm : Nat := bb
def nn : Nat := 12 * mm + 60

section
variable {P : Program} {w : World} {K : PySem.W.Frag} {mg : Str → Option Value} {base : Heap} {CM CR aU a1 a2 : Addr}
theorem natS {n : Nat} {x y : Int} (h : x.natAbs ≤ y.natAbs) (s : Sz n y) : Sz n x := Nat.lt_of_le_of_lt h s
theorem nzI {n : Int} : (n != 0) = !decide (n = 0) := by
  by_cases h : n = 0
  · subst h; rfl
  · rw [decide_eq_false h]
    simp [h]
theorem Eu.gcd {x y a u v p q : Int} (h : Eu x y a 0 u v p q) : a.natAbs = Nat.gcd x.natAbs y.natAbs := by
  obtain ⟨ea, eb, de, _, _, _⟩ := h
  have hx : a ∣ x := by
    have e : q * a = (u * q - v * p) * x := by
      have : q * a = q * u * x + q * v * y - v * 0 := by rw [ea, Int.mul_zero]; grind
      rw [eb] at this
      rw [this]
      grind
    rcases de with z | z <;> rw [z] at e
    · exact ⟨q, by rw [Int.mul_comm]; omega⟩
    · exact ⟨-q, by rw [Int.mul_neg, Int.mul_comm]; omega⟩
  have hy : a ∣ y := by
    have e : p * a = -((u * q - v * p) * y) := by
      have : p * a = p * u * x + p * v * y - u * 0 := by rw [ea, Int.mul_zero]; grind
      rw [eb] at this
      rw [this]
      grind
    rcases de with z | z <;> rw [z] at e
    · exact ⟨-p, by rw [Int.mul_neg, Int.mul_comm]; omega⟩
    · exact ⟨p, by rw [Int.mul_comm]; omega⟩
  refine Nat.dvd_antisymm (Nat.dvd_gcd (Int.natAbs_dvd_natAbs.mpr hx) (Int.natAbs_dvd_natAbs.mpr hy)) ?_
  have hg : ((Int.gcd x y : Nat) : Int) ∣ a := by
    rw [ea]
    exact Int.dvd_add (Int.dvd_trans (Int.gcd_dvd_left ..) (Int.dvd_mul_left ..)) (Int.dvd_trans (Int.gcd_dvd_right ..) (Int.dvd_mul_left ..))
  have := Int.natAbs_dvd_natAbs.mpr hg
  exact this
theorem divB {N : Nat} {i j : Int} (h : j ≠ 0) (s : Sz N j) (hN : N ≤ 9000) : CDivA i j := by
  refine ⟨h, ?_⟩
  have h1 : j.natAbs < 2 ^ 9000 := s.le hN
  have := log_lt (k := 8999) h1
  omega
theorem rd_par3 {i j l : Nat} {t : TA} {D : Ends} {σ : L2.St} {H : Hp} : tPar3 i j l t D σ H = t σ H fun vs H1 => ∃ u v w, vs = [u, v, w] ∧ D.nx (((σ.set i (some u)).set j (some v)).set l (some w)) H1 := rfl
abbrev s_combination : Stmt := top 2
theorem sc_combination : FnScope ["a", "b", "g", "u", "v", "h", "s", "t", "q"] ["a", "b"] (defScope s_combination) := ⟨rfl, rfl, rfl, by decide +kernel, rfl, by decide +kernel, by decide +kernel⟩

def spComb (N : Nat) : Sp := fun vs H Q _ => ∃ x y : Int, vs = [.int x, .int y] ∧ 0 < x ∧ 0 < y ∧ Sz N x ∧ Sz N y ∧
  ∀ (r : Addr) (u v : Int) (H' : Hp), Same H H' → H r = none → H' r = some (.tup [.int ((Nat.gcd x.natAbs y.natAbs : Nat) : Int), .int u, .int v]) → u * x + v * y = ((Nat.gcd x.natAbs y.natAbs : Nat) : Int) → Sz N u → Sz (N + 1) v → Q (.ref r) H'
theorem cal_comb (D : Dn K mg "combination" s_combination ["a", "b"]) (B : Bl mg) : Cal P w K mg base "combination" 1 ["a", "b"] (spComb nn) := by
  have N0 : nn ≤ 2600 := by decide
  generalize nn = N at *
  refine D.cal sc_combination (fun vs H Q E h => ?_) (fun f cdv A outer s H vs Q E hr h => ?_)
  · obtain ⟨x, y, rfl, _⟩ := h
    rfl
  · obtain ⟨x, y, rfl, hx0, hy0, zx, zy, q⟩ := h
    refine ⟨_, (pss_cons (ps_par3 (i := 2) (j := 3) (l := 4) rfl sc_combination.nd rfl rfl rfl (by decide) (by decide) (by decide) rfl rfl rfl (pa_cons (pv 0) (pa_cons pe_int (pa_cons pe_int pa_nil))) (by rfl))
  (pss_cons (ps_par3 (i := 5) (j := 6) (l := 7) rfl sc_combination.nd rfl rfl rfl (by decide) (by decide) (by decide) rfl rfl rfl (pa_cons (pv 1) (pa_cons pe_int (pa_cons pe_int pa_nil))) (by rfl))
  (pss_cons (ps_while PassesOwn.never (pt_truth (pv 5) (by intro _; rfl)) (pss_cons (ps_set (i := 8) sc_combination.nd rfl (Or.inl rfl) (pe_op op_fdivA (pv 2) (pv 5)))
  (pss_cons (ps_par (i := 2) (j := 5) rfl sc_combination.nd rfl rfl (by decide) rfl rfl (pa_cons (pv 5) (pa_cons (pe_op op_sub (pv 2) (pe_op op_mulI (pv 8) (pv 5))) pa_nil)) (by rfl))
  (pss_cons (ps_par (i := 3) (j := 6) rfl sc_combination.nd rfl rfl (by decide) rfl rfl (pa_cons (pv 6) (pa_cons (pe_op op_sub (pv 3) (pe_op op_mulI (pv 8) (pv 6))) pa_nil)) (by rfl))
  (pss_one (ps_par (i := 4) (j := 7) rfl sc_combination.nd rfl rfl (by decide) rfl rfl (pa_cons (pv 7) (pa_cons (pe_op op_sub (pv 4) (pe_op op_mulI (pv 8) (pv 7))) pa_nil)) (by rfl)))))))
  (pss_cons (ps_if (pt_cmpR op_lt (pv 2) pe_int (nomark _)) (pss_one (ps_ret (pe_tup (pa_cons (pe_un un_neg (pv 2)) (pa_cons (pe_un un_neg (pv 3)) (pa_cons (pe_un un_neg (pv 4)) pa_nil)))))) pss_nil)
  (pss_one (ps_ret (pe_tup (pa_cons (pv 2) (pa_cons (pv 3) (pa_cons (pv 4) pa_nil)))))))))), ?_⟩
    rw [CB.rd_seq, rd_par3]
    walk_at "rs"
    rw [CB.rd_seq, rd_par3]
    walk_at "rs"
    rw [CB.rd_seq]
    refine while_w (fun σ H' => ∃ a b u v p q sk, σ = [some (.int x), some (.int y), some (.int a), some (.int u), some (.int v), some (.int b), some (.int p), some (.int q), sk] ∧ Same H H' ∧ Eu x y a b u v p q ∧ Sz N a ∧ Sz N b ∧ u.natAbs ≤ y.natAbs ∧ Sz (2 * N + 2) v ∧ 0 ≤ a ∧ 0 ≤ b)
      (fun σ _ => match σ with | [_, _, _, _, _, some (.int b), _, _, _] => b.natAbs | _ => 0) ⟨x, y, 1, 0, 0, 1, _, rfl, Same.refl _, ⟨by omega, by omega, .inl rfl, ?_, .inl rfl, ?_⟩, zx, zy, ?_, ?_, Int.le_of_lt hx0, Int.le_of_lt hy0⟩ ?_
    · rw [show (0 : Int).natAbs = 0 from rfl, show (1 : Int).natAbs = 1 from rfl]
      omega
    · omega
    · omega
    · exact Nat.two_pow_pos _
    rintro σ H' ⟨a, b, u, v, p, q', sk, rfl, sm, hE, za, zb, zu, zv, ha0, hb0⟩ M hM
    refine ⟨!decide (b = 0), fun Q' q' => ?_, fun hb => ?_, fun hb => ?_⟩
    · walk_at "rd"
      refine ⟨_, rfl, ?_⟩
      rw [nzI]
      exact q'
    · have hb : b ≠ 0 := by simpa using hb
      have zp : Sz N p := natS hE.p zy
      have zq : Sz (2 * N + 2) q' := by
        have h := hE.q hb
        have hh : p.natAbs * x.natAbs < 2 ^ (N + N) := by
          have := zp.mul zx
          unfold Sz at this
          rw [Int.natAbs_mul] at this
          exact this
        have z : Sz N b := zb
        have e : (2 : Nat) ^ (2 * N + 2) = 2 ^ (N + N) * 2 ^ 2 := by rw [← Nat.pow_add]; congr 1; omega
        have e2 : (2 : Nat) ^ N ≤ 2 ^ (N + N) := Nat.pow_le_pow_right (by decide) (by omega)
        unfold Sz at z ⊢
        rw [e]
        generalize (2 : Nat) ^ (N + N) = X at *
        generalize (2 : Nat) ^ N = Y at *
        omega
      obtain ⟨f1, f2, f3⟩ := fdiv_b (a := a) hb
      have st := hE.step hb rfl
      have zr : Sz N (a - a.fdiv b * b) := natS (Nat.le_of_lt f1) zb
      have r0 : 0 ≤ a - a.fdiv b * b := by
        rcases Int.lt_or_le (a - a.fdiv b * b) 0 with c | c
        · have := Int.mul_neg_of_pos_of_neg (show 0 < b by omega) c
          omega
        · exact c
      have zk : Sz (N + 2) (a.fdiv b) := by
        have z : Sz (N + 1) (a - (a - a.fdiv b * b)) := za.sub zr
        rw [show a - (a - a.fdiv b * b) = a.fdiv b * b by omega] at z
        unfold Sz at z ⊢
        rw [Int.natAbs_mul] at z
        have : (a.fdiv b).natAbs * 1 ≤ (a.fdiv b).natAbs * b.natAbs := Nat.mul_le_mul_left _ (by omega)
        have e : (2 : Nat) ^ (N + 2) = 2 ^ (N + 1) * 2 := by rw [Nat.pow_succ]
        rw [e]
        generalize (2 : Nat) ^ (N + 1) = X at *
        omega
      rw [CB.rd_seq]
      walk_at "rs"
      refine ⟨divB hb zb (by omega), ?_⟩
      generalize a.fdiv b = k at *
      rw [CB.rd_seq]
      walk_at "rs"
      refine ⟨zk.ok zb (by omega) (by omega), ?_⟩
      rw [CB.rd_seq]
      walk_at "rs"
      refine ⟨zk.ok zp (by omega) (by omega), ?_⟩
      try walk_at "rs"
      refine ⟨zk.ok zq (by omega) (by omega), ?_⟩
      exact hM _ _ ⟨b, a - k * b, p, q', u - k * p, v - k * q', _, rfl, sm, st, zb, zr, hE.p, zq, hb0, r0⟩ f1
    · have hb : b = 0 := by simpa using hb
      subst hb
      have ea := hE.ea
      have eg := hE.gcd
      have ega : a = ((Nat.gcd x.natAbs y.natAbs : Nat) : Int) := by rw [← eg]; omega
      have zv' : Sz (N + 1) v := by
        have e : v * y = a - u * x := by omega
        have m1 := Int.natAbs_mul v y
        have m2 := Int.natAbs_mul u x
        have m3 : u.natAbs * x.natAbs ≤ y.natAbs * x.natAbs := Nat.mul_le_mul_right _ zu
        have m4 : a.natAbs ≤ y.natAbs * a.natAbs := by
          have : 1 * a.natAbs ≤ y.natAbs * a.natAbs := Nat.mul_le_mul_right _ (by omega)
          omega
        have m5 : v.natAbs * y.natAbs ≤ (a.natAbs + x.natAbs) * y.natAbs := by
          rw [← m1, e, Nat.add_mul, Nat.mul_comm a.natAbs, Nat.mul_comm x.natAbs]
          omega
        have m6 := Nat.le_of_mul_le_mul_right m5 (show 0 < y.natAbs by omega)
        unfold Sz at za zx ⊢
        rw [Nat.pow_succ]
        omega
      show tSeq _ _ _ _ _
      rw [CB.rd_seq]
      walk_at "rs"
      rw [CB.rd_seq]
      walk_at "rs"
      rw [if_neg (show ¬ a < 0 by omega)]
      try walk_at "rs"
      refine ⟨by decide, fun r nr => q r u v _ (sm.trans (same_upd nr)) (sm.free nr) ?_ ?_ (natS zu zy) zv'⟩
      · rw [← ega]; exact upd_same
      · rw [← ega]; omega
end

local macro_rules | `(tactic| walk_at "rd") => `(tactic| simp (maxSteps := 2000000) only [CB.rd_var, CB.rd_C, CB.rd_op, CB.rd_un, CB.rd_I, CB.rd_I0, CB.rd_U, CB.rd_Eq, CB.rd_Ne, CB.rd_test, CB.rd_B, CB.rd_and, CB.rd_or, CB.rd_not, CB.rd_andV, CB.rd_orV, CB.rd_notV, CB.rd_if, CB.rd_chain, CB.rd_chain3,
  CB.rd_next, CB.rd_seq, CB.rd_drop, CB.rd_ret, CB.rd_retN, CB.rd_break, CB.rd_cont, CB.rd_ifS, CB.rd_asg, CB.rd_name, CB.rd_gsub, CB.rd_gtup, CB.rd_gcons, CB.rd_gnil, CB.rd_par, CB.rd_aug, CB.rd_ipI, CB.rd_nil, CB.rd_cons, CB.rd_tup, CB.rd_lst, CB.rd_CB, CB.rd_call, CB.rd_callS, CB.rd_ixL, CB.rd_ixT, CB.rd_setL, CB.rd_putS, CB.rd_forZ, CB.rd_lcZ, CB.rd_forE, CB.rd_forEL, CB.rd_lcE, CB.rd_isqrt, CB.rd_sum, CB.rd_append, CB.rd_forL, CB.rd_forT, CB.rd_forR1, CB.rd_forR2, CB.rd_forR3, CB.rd_lcL, CB.rd_lcT, CB.rd_lcR1, CB.rd_lcR2, CB.rd_yes, CB.rd_sl, CB.rd_noPart, CB.rd_part, CB.rd_slL, CB.rd_wipe0, CB.rd_rep, CB.rd_tupOf, CB.rd_lenS, CB.rd_gcd, CB.rd_wipe1, CB.rd_sorted3, CB.rd_any, CB.rd_all, CB.rd_ext, CB.rd_glst, CB.rd_sortedM, CB.rd_minD, CB.rd_indexD, CB.rd_pop, CB.rd_dnew, CB.rd_dget, CB.rd_dget2, CB.rd_dput, CB.rd_dm, CB.rd_anyI, CB.rd_ixDC, CB.rd_inDC, CB.rd_cat, CB.rd_lcZR, CB.rd_revR1, CB.rd_max2, CB.rd_forRv, CB.rd_ins, CB.rd_revT, CB.rd_listOf, CB.rd_inI, CB.rd_idxI,
  L2.start, List.map_cons, List.map_nil, List.length_cons, List.length_nil, Nat.reduceAdd, Nat.reduceSub, List.replicate_succ, List.replicate_zero,
  V.int.injEq, V.ref.injEq, V.bl.injEq, V.str.injEq, Option.some.injEq, List.cons.injEq, exists_and_left, exists_eq_left', exists_eq_left, reduceCtorEq, false_and, and_false, or_false, false_or, exists_false, exists_const, and_assoc, true_and, and_true,
  CB.scal_int, CB.scal_str, CB.dec_ii, CB.ite_dec, CB.ite_ndec, List.getElem?_cons_zero, List.getElem?_cons_succ, List.set_cons_zero, List.set_cons_succ, List.append_nil, List.cons_append, List.nil_append, if_true, if_false, Bool.false_eq_true, Bool.not_true, Bool.not_false, CB.K_nox, CB.K_cxOf, eq_self])
local macro_rules | `(tactic| walk_at "rs") => `(tactic| simp (maxSteps := 2000000) only [CB.rd_var, CB.rd_C, CB.rd_op, CB.rd_un, CB.rd_I, CB.rd_I0, CB.rd_U, CB.rd_Eq, CB.rd_Ne, CB.rd_test, CB.rd_B, CB.rd_and, CB.rd_or, CB.rd_not, CB.rd_andV, CB.rd_orV, CB.rd_notV, CB.rd_if, CB.rd_chain, CB.rd_chain3,
  CB.rd_next, CB.rd_drop, CB.rd_ret, CB.rd_retN, CB.rd_break, CB.rd_cont, CB.rd_ifS, CB.rd_asg, CB.rd_name, CB.rd_gsub, CB.rd_gtup, CB.rd_gcons, CB.rd_gnil, CB.rd_par, CB.rd_aug, CB.rd_ipI, CB.rd_nil, CB.rd_cons, CB.rd_tup, CB.rd_lst, CB.rd_CB, CB.rd_call, CB.rd_callS, CB.rd_ixL, CB.rd_ixT, CB.rd_setL, CB.rd_putS, CB.rd_forZ, CB.rd_lcZ, CB.rd_forE, CB.rd_forEL, CB.rd_lcE, CB.rd_isqrt, CB.rd_sum, CB.rd_append, CB.rd_forL, CB.rd_forT, CB.rd_forR1, CB.rd_forR2, CB.rd_forR3, CB.rd_lcL, CB.rd_lcT, CB.rd_lcR1, CB.rd_lcR2, CB.rd_yes, CB.rd_sl, CB.rd_noPart, CB.rd_part, CB.rd_slL, CB.rd_wipe0, CB.rd_rep, CB.rd_tupOf, CB.rd_lenS, CB.rd_gcd, CB.rd_wipe1, CB.rd_sorted3, CB.rd_any, CB.rd_all, CB.rd_ext, CB.rd_glst, CB.rd_sortedM, CB.rd_minD, CB.rd_indexD, CB.rd_pop, CB.rd_dnew, CB.rd_dget, CB.rd_dget2, CB.rd_dput, CB.rd_dm, CB.rd_anyI, CB.rd_ixDC, CB.rd_inDC, CB.rd_cat, CB.rd_lcZR, CB.rd_revR1, CB.rd_max2, CB.rd_forRv, CB.rd_ins, CB.rd_revT, CB.rd_listOf, CB.rd_inI, CB.rd_idxI,
  L2.start, List.map_cons, List.map_nil, List.length_cons, List.length_nil, Nat.reduceAdd, Nat.reduceSub, List.replicate_succ, List.replicate_zero,
  V.int.injEq, V.ref.injEq, V.bl.injEq, V.str.injEq, Option.some.injEq, List.cons.injEq, exists_and_left, exists_eq_left', exists_eq_left, reduceCtorEq, false_and, and_false, or_false, false_or, exists_false, exists_const, and_assoc, true_and, and_true,
  CB.scal_int, CB.scal_str, CB.dec_ii, CB.ite_dec, CB.ite_ndec, List.getElem?_cons_zero, List.getElem?_cons_succ, List.set_cons_zero, List.set_cons_succ, List.append_nil, List.cons_append, List.nil_append, if_true, if_false, Bool.false_eq_true, Bool.not_true, Bool.not_false, CB.K_nox, CB.K_cxOf, eq_self])

local macro_rules | `(tactic| walk_at "nx") => `(tactic| (show tSeq _ _ _ _ _; rw [CB.rd_seq]; walk_at "rs"))


/-! ### rows of ints as functions, echelon tables, the one reduced table of a lattice -/
abbrev Vc := Nat → Int
/-- the sums of multiples of rows -/
inductive Spn (S : Vc → Prop) : Vc → Prop
  | zero : Spn S (fun _ => 0)
  | add {f g : Vc} (c : Int) : Spn S f → S g → Spn S (fun i => f i + c * g i)
theorem Spn.cast {S : Vc → Prop} {f g : Vc} (h : Spn S f) (e : ∀ i, f i = g i) : Spn S g := by
  have : f = g := funext e
  rw [← this]; exact h
theorem Spn.mem {S : Vc → Prop} {g : Vc} (h : S g) : Spn S g := (Spn.add 1 .zero h).cast fun i => by omega
theorem Spn.plus {S : Vc → Prop} {f g : Vc} (c : Int) (hf : Spn S f) (hg : Spn S g) : Spn S (fun i => f i + c * g i) := by
  induction hg with
  | zero => exact hf.cast fun i => by show f i = f i + c * 0; omega
  | add d _ hm ih => exact (Spn.add (c * d) ih hm).cast fun i => by grind
theorem Spn.smul {S : Vc → Prop} {g : Vc} (c : Int) (hg : Spn S g) : Spn S (fun i => c * g i) := (Spn.plus c .zero hg).cast fun i => Int.zero_add _
theorem Spn.sub {S : Vc → Prop} {f g : Vc} (hf : Spn S f) (hg : Spn S g) : Spn S (fun i => f i - g i) := (Spn.plus (-1) hf hg).cast fun i => by omega
theorem Spn.mono {S T : Vc → Prop} {f : Vc} (h : ∀ g, S g → Spn T g) (hf : Spn S f) : Spn T f := by
  induction hf with
  | zero => exact .zero
  | add c _ hm ih => exact Spn.plus c ih (h _ hm)
/-- a fact that zero, and sums of multiples, have -/
theorem Spn.ind {S : Vc → Prop} {p : Vc → Prop} {f : Vc} (hf : Spn S f) (h0 : p fun _ => 0) (h1 : ∀ f g c, p f → S g → p fun i => f i + c * g i) : p f := by
  induction hf with
  | zero => exact h0
  | add c _ hm ih => exact h1 _ _ c ih hm
def Ls (S : List Vc) : Vc → Prop := fun f => f ∈ S
theorem spn_nil {f : Vc} (h : Spn (Ls []) f) : ∀ i, f i = 0 := by
  refine h.ind (p := fun f => ∀ i, f i = 0) (fun _ => rfl) fun f g c _ hg => ?_
  exact absurd hg List.not_mem_nil
theorem spn_cons {S : List Vc} {f x : Vc} (h : Spn (Ls (f :: S)) x) : ∃ c y, Spn (Ls S) y ∧ ∀ i, x i = y i + c * f i := by
  refine h.ind (p := fun x => ∃ c y, Spn (Ls S) y ∧ ∀ i, x i = y i + c * f i) ⟨0, _, .zero, fun i => by show (0:Int) = 0 + 0 * f i; omega⟩ ?_
  rintro x g d ⟨c, y, hy, e⟩ hg
  rcases List.mem_cons.mp hg with rfl | hg
  · exact ⟨c + d, y, hy, fun i => by show x i + d * g i = _; rw [e]; grind⟩
  · exact ⟨c, _, Spn.add d hy hg, fun i => by show x i + d * g i = y i + d * g i + c * f i; rw [e]; omega⟩
theorem spn_mem {S : List Vc} {f : Vc} (h : f ∈ S) : Spn (Ls S) f := Spn.mem h
theorem spn_tail {S : List Vc} {f x : Vc} (h : Spn (Ls S) x) : Spn (Ls (f :: S)) x := Spn.mono (fun _ hg => spn_mem (List.mem_cons_of_mem _ hg)) h
theorem spn_sub {S T : List Vc} {x : Vc} (h : Spn (Ls S) x) (hs : ∀ f ∈ S, Spn (Ls T) f) : Spn (Ls T) x := Spn.mono hs h
/-- the place of the first item that is not 0, or w -/
def pvt (w : Nat) (f : Vc) : Nat := ((List.range w).find? fun i => f i != 0).getD w
theorem pvt_le {w : Nat} {f : Vc} : pvt w f ≤ w := by
  unfold pvt
  cases h : (List.range w).find? fun i => f i != 0 with
  | none => exact Nat.le_refl _
  | some i => exact Nat.le_of_lt (List.mem_range.mp (List.mem_of_find?_eq_some h))
theorem pvt_zero {w : Nat} {f : Vc} : ∀ i, i < pvt w f → f i = 0 := by
  intro i hi
  have hw := pvt_le (w := w) (f := f)
  unfold pvt at hi
  cases h : (List.range w).find? fun i => f i != 0 with
  | none =>
    have := List.find?_eq_none.mp h i (List.mem_range.mpr (by rw [h] at hi; exact hi))
    simpa using this
  | some k =>
    rw [h] at hi
    obtain ⟨_, as, bs, e, ha⟩ := List.find?_eq_some_iff_append.mp h
    have hk : k < w := List.mem_range.mp (List.mem_of_find?_eq_some h)
    have hi' : i < k := hi
    have hl : as.length = k := by
      have h1 : (List.range w)[as.length]? = some k := by rw [e]; simp
      rw [List.getElem?_range (by have := congrArg List.length e; simp at this; omega)] at h1
      cases h1; rfl
    have hm : i ∈ as := by
      have h1 : (as ++ k :: bs)[i]? = some i := by rw [← e, List.getElem?_range (by omega)]
      rw [List.getElem?_append_left (by omega)] at h1
      exact List.mem_of_getElem? h1
    have := ha i hm
    simpa using this
theorem pvt_ne {w : Nat} {f : Vc} (h : pvt w f < w) : f (pvt w f) ≠ 0 := by
  unfold pvt at h ⊢
  cases hh : (List.range w).find? fun i => f i != 0 with
  | none => rw [hh] at h; exact absurd h (Nat.lt_irrefl _)
  | some k =>
    have := List.find?_some hh
    simpa using this
theorem pvt_eq {w i : Nat} {f : Vc} (hi : i < w) (h0 : ∀ j, j < i → f j = 0) (h1 : f i ≠ 0) : pvt w f = i := by
  rcases Nat.lt_trichotomy (pvt w f) i with c | c | c
  · exact absurd (h0 _ c) (pvt_ne (by omega))
  · exact c
  · exact absurd (pvt_zero i c) h1
theorem pvt_ge {w i : Nat} {f : Vc} (hi : i ≤ w) (h0 : ∀ j, j < i → f j = 0) : i ≤ pvt w f := by
  rcases Nat.lt_or_ge (pvt w f) i with c | c
  · exact absurd (h0 _ c) (pvt_ne (by omega))
  · exact c
/-- nothing beyond w -/
def Sup (w : Nat) (f : Vc) : Prop := ∀ i, w ≤ i → f i = 0
theorem zero_of {w : Nat} {f : Vc} (s : Sup w f) (h : pvt w f = w) : ∀ i, f i = 0 := fun i => by
  rcases Nat.lt_or_ge i w with c | c
  · exact pvt_zero (w := w) i (by omega)
  · exact s i c
theorem Spn.sup {S : List Vc} {w : Nat} {f : Vc} (h : Spn (Ls S) f) (hs : ∀ g ∈ S, Sup w g) : Sup w f :=
  h.ind (p := Sup w) (fun _ _ => rfl) fun f g c hf hg i hi => by show f i + c * g i = 0; rw [hf i hi, hs g hg i hi]; omega
/-- rising pivots from lo on -/
inductive Ech (w : Nat) : Nat → List Vc → Prop
  | nil {lo} : Ech w lo []
  | cons {lo f S} : lo ≤ pvt w f → pvt w f < w → Ech w (pvt w f + 1) S → Ech w lo (f :: S)
theorem Ech.le {w lo lo' : Nat} {S : List Vc} (h : Ech w lo S) (l : lo' ≤ lo) : Ech w lo' S := by
  cases h with
  | nil => exact .nil
  | cons a b c => exact .cons (Nat.le_trans l a) b c
theorem Ech.mem {w lo : Nat} {S : List Vc} (h : Ech w lo S) : ∀ f ∈ S, lo ≤ pvt w f ∧ pvt w f < w := by
  induction h with
  | nil => intro f hf; exact absurd hf List.not_mem_nil
  | cons a b c ih =>
    intro g hg
    rcases List.mem_cons.mp hg with rfl | hg
    · exact ⟨a, b⟩
    · have := ih g hg
      exact ⟨by omega, this.2⟩
theorem Ech.len {w lo : Nat} {S : List Vc} (h : Ech w lo S) : S.length + lo ≤ w ∨ S = [] := by
  induction h with
  | nil => exact .inr rfl
  | cons a b c ih =>
    refine .inl ?_
    rcases ih with ih | ih
    · rw [List.length_cons]; omega
    · rw [ih]; simp; omega
theorem Ech.low {w lo : Nat} {S : List Vc} (h : Ech w lo S) {x : Vc} (hx : Spn (Ls S) x) : ∀ i, i < lo → x i = 0 :=
  hx.ind (p := fun x => ∀ i, i < lo → x i = 0) (fun _ _ => rfl) fun f g c hf hg i hi => by
    show f i + c * g i = 0
    rw [hf i hi, pvt_zero (w := w) (f := g) i (by have := (h.mem g hg).1; omega)]
    omega
def Pos (w : Nat) (S : List Vc) : Prop := ∀ f ∈ S, 0 < f (pvt w f)
inductive Red (w : Nat) : List Vc → Prop
  | nil : Red w []
  | cons {f S} : 0 < f (pvt w f) → (∀ g ∈ S, 0 ≤ f (pvt w g) ∧ f (pvt w g) < g (pvt w g)) → Red w S → Red w (f :: S)
theorem Red.pos {w : Nat} {S : List Vc} (h : Red w S) : Pos w S := by
  induction h with
  | nil => intro f hf; exact absurd hf List.not_mem_nil
  | cons a b c ih =>
    intro g hg
    rcases List.mem_cons.mp hg with rfl | hg
    · exact a
    · exact ih g hg
theorem spn_head {w lo : Nat} {f : Vc} {S : List Vc} (h : Ech w lo (f :: S)) {x : Vc} (hx : Spn (Ls (f :: S)) x) (h0 : x (pvt w f) = 0) : Spn (Ls S) x := by
  cases h with
  | cons a b c =>
    obtain ⟨k, y, hy, e⟩ := spn_cons hx
    have h1 := c.low hy (pvt w f) (by omega)
    have h2 := e (pvt w f)
    rw [h0, h1, Int.zero_add] at h2
    have h3 : k = 0 := (Int.mul_eq_zero.mp h2.symm).resolve_right (pvt_ne b)
    exact hy.cast fun i => by rw [e, h3]; omega
theorem mul_small {k d : Int} (hd : 0 < d) (h : (k * d).natAbs < d.natAbs) : k = 0 := by
  rcases Int.lt_trichotomy k 0 with c | c | c
  · exfalso
    rw [Int.natAbs_mul] at h
    have : 1 * d.natAbs ≤ k.natAbs * d.natAbs := Nat.mul_le_mul_right _ (by omega)
    omega
  · exact c
  · exfalso
    rw [Int.natAbs_mul] at h
    have : 1 * d.natAbs ≤ k.natAbs * d.natAbs := Nat.mul_le_mul_right _ (by omega)
    omega
theorem red_zero {w lo : Nat} {S : List Vc} (h : Ech w lo S) (p : Pos w S) {x : Vc} (hx : Spn (Ls S) x) (hs : ∀ g ∈ S, (x (pvt w g)).natAbs < (g (pvt w g)).natAbs) : ∀ i, x i = 0 := by
  induction S generalizing lo with
  | nil => exact spn_nil hx
  | cons f S ih =>
    have hh := h
    cases h with
    | cons a b c =>
      obtain ⟨k, y, hy, e⟩ := spn_cons hx
      have h1 := c.low hy (pvt w f) (by omega)
      have h2 := e (pvt w f)
      rw [h1, Int.zero_add] at h2
      have h4 := hs f List.mem_cons_self
      rw [h2] at h4
      have h3 : k = 0 := mul_small (p f List.mem_cons_self) h4
      rw [h3, Int.zero_mul] at h2
      exact ih c (fun g hg => p g (List.mem_cons_of_mem _ hg)) (spn_head hh hx h2) fun g hg => hs g (List.mem_cons_of_mem _ hg)
theorem red_uniq {w lo : Nat} {S T : List Vc} (hS : Ech w lo S) (hT : Ech w lo T) (rS : Red w S) (rT : Red w T) (st : ∀ f ∈ S, Spn (Ls T) f) (ts : ∀ f ∈ T, Spn (Ls S) f) : S = T := by
  induction S generalizing T lo with
  | nil =>
    cases T with
    | nil => rfl
    | cons g T =>
      cases hT with
      | cons a b c => exact absurd (spn_nil (ts g List.mem_cons_self) _) (pvt_ne b)
  | cons f S ih =>
    cases T with
    | nil =>
      cases hS with
      | cons a b c => exact absurd (spn_nil (st f List.mem_cons_self) _) (pvt_ne b)
    | cons g T =>
      have hS' := hS
      have hT' := hT
      cases hS with
      | cons a b c =>
      cases hT with
      | cons a' b' c' =>
      cases rS with
      | cons p1 p2 p3 =>
      cases rT with
      | cons q1 q2 q3 =>
      have hf := st f List.mem_cons_self
      have hg := ts g List.mem_cons_self
      have e : pvt w f = pvt w g := by
        have h1 : pvt w g ≤ pvt w f := by
          rcases Nat.lt_or_ge (pvt w f) (pvt w g) with z | z
          · exact absurd ((Ech.cons (Nat.le_refl _) b' c').low hf _ z) (pvt_ne b)
          · exact z
        have h2 : pvt w f ≤ pvt w g := by
          rcases Nat.lt_or_ge (pvt w g) (pvt w f) with z | z
          · exact absurd ((Ech.cons (Nat.le_refl _) b c).low hg _ z) (pvt_ne b')
          · exact z
        omega
      have ef : f (pvt w f) = g (pvt w f) := by
        obtain ⟨k, y, hy, ey⟩ := spn_cons hf
        obtain ⟨l, z, hz, ez⟩ := spn_cons hg
        have h1 := ey (pvt w f)
        rw [c'.low hy (pvt w f) (by omega), Int.zero_add] at h1
        have h2 := ez (pvt w f)
        rw [c.low hz (pvt w f) (by omega), Int.zero_add] at h2
        have d1 : f (pvt w f) ∣ g (pvt w f) := ⟨l, by rw [h2, Int.mul_comm]⟩
        have d2 : g (pvt w f) ∣ f (pvt w f) := ⟨k, by rw [h1, Int.mul_comm]⟩
        rw [← e] at q1
        exact Int.dvd_antisymm (by omega) (by omega) d1 d2
      have sST : ∀ x, Spn (Ls S) x → Spn (Ls T) x := fun x hx =>
        spn_head hT' (spn_sub hx fun y hy => st y (List.mem_cons_of_mem _ hy)) (by rw [← e]; exact c.low hx _ (by omega))
      have sTS : ∀ x, Spn (Ls T) x → Spn (Ls S) x := fun x hx =>
        spn_head hS' (spn_sub hx fun y hy => ts y (List.mem_cons_of_mem _ hy)) (by rw [e]; exact c'.low hx _ (by omega))
      have eST : S = T := ih (lo := pvt w f + 1) c (by rw [e]; exact c') p3 q3 (fun y hy => sST y (spn_mem hy)) (fun y hy => sTS y (spn_mem hy))
      subst eST
      have d : Spn (Ls S) fun i => f i - g i := spn_head hS' (Spn.sub (spn_mem List.mem_cons_self) hg) (by rw [ef]; omega)
      have z := red_zero c (Red.pos p3) d fun h hh => by
        have b1 := p2 h hh
        have b2 := q2 h hh
        omega
      have : f = g := funext fun i => by
        have := z i
        omega
      rw [this]

/-! ### the rest by a table; a row more; the reduced table -/
def rst (w : Nat) : List Vc → Vc → Vc
  | [], x => x
  | r :: S, x => rst w S fun i => x i + -(x (pvt w r) / r (pvt w r)) * r i
theorem rst_low {w lo : Nat} {S : List Vc} (h : Ech w lo S) : ∀ (x : Vc) i, i < lo → rst w S x i = x i := by
  induction h with
  | nil => intro x i _; rfl
  | @cons lo f S a b c ih =>
    intro x i hi
    show rst w S _ i = _
    rw [ih _ i (by omega), pvt_zero (w := w) (f := f) i (by omega)]
    omega
theorem rst_spn {w : Nat} : ∀ (S : List Vc) (x : Vc), Spn (Ls S) fun i => rst w S x i - x i
  | [], x => Spn.zero.cast fun i => by show (0 : Int) = x i - x i; omega
  | r :: S, x => by
    have h := spn_tail (f := r) (rst_spn (w := w) S fun i => x i + -(x (pvt w r) / r (pvt w r)) * r i)
    exact (Spn.plus (-(x (pvt w r) / r (pvt w r))) h (spn_mem List.mem_cons_self)).cast fun i => by
      show rst w S _ i - (x i + -(x (pvt w r) / r (pvt w r)) * r i) + -(x (pvt w r) / r (pvt w r)) * r i = rst w S _ i - x i
      omega
theorem rst_red {w lo : Nat} {S : List Vc} (h : Ech w lo S) (p : Pos w S) : ∀ (x : Vc), ∀ g ∈ S, 0 ≤ rst w S x (pvt w g) ∧ rst w S x (pvt w g) < g (pvt w g) := by
  induction h with
  | nil => intro x g hg; exact absurd hg List.not_mem_nil
  | @cons lo f S a b c ih =>
    intro x g hg
    have pf := p f List.mem_cons_self
    rcases List.mem_cons.mp hg with rfl | hg
    · show 0 ≤ rst w S _ (pvt w g) ∧ rst w S _ (pvt w g) < _
      rw [rst_low c _ _ (by omega)]
      have h1 := Int.emod_nonneg (x (pvt w g)) (show g (pvt w g) ≠ 0 by omega)
      have h2 := Int.emod_lt_of_pos (x (pvt w g)) pf
      have h3 := Int.emod_add_mul_ediv (x (pvt w g)) (g (pvt w g))
      have h4 : x (pvt w g) + -(x (pvt w g) / g (pvt w g)) * g (pvt w g) = x (pvt w g) % g (pvt w g) := by
        rw [Int.neg_mul, Int.mul_comm]; omega
      rw [h4]
      exact ⟨h1, h2⟩
    · exact ih (fun g hg => p g (List.mem_cons_of_mem _ hg)) _ g hg
theorem rst_sup {w : Nat} : ∀ {S : List Vc} {x : Vc}, (∀ g ∈ S, Sup w g) → Sup w x → Sup w (rst w S x)
  | [], _, _, h => h
  | r :: S, x, hs, h => rst_sup (S := S) (fun g hg => hs g (List.mem_cons_of_mem _ hg)) fun i hi => by
    rw [h i hi, hs r List.mem_cons_self i hi]; omega
theorem rst_in {w : Nat} {S : List Vc} {x : Vc} : Spn (Ls (x :: S)) (rst w S x) := by
  have h := spn_tail (f := x) (rst_spn (w := w) S x)
  exact (Spn.plus 1 h (spn_mem List.mem_cons_self)).cast fun i => by
    show rst w S x i - x i + 1 * x i = _
    omega
theorem rst_out {w : Nat} {S : List Vc} {x : Vc} : Spn (Ls (rst w S x :: S)) x := by
  have h := spn_tail (f := rst w S x) (rst_spn (w := w) S x)
  exact ((Spn.plus (-1) (spn_mem List.mem_cons_self) h)).cast fun i => by
    show rst w S x i + -1 * (rst w S x i - x i) = _
    omega
/-- the rest of a row of the lattice is 0 -/
theorem rst_zero {w lo : Nat} {S : List Vc} (h : Ech w lo S) (p : Pos w S) {x : Vc} (hx : Spn (Ls S) x) : ∀ i, rst w S x i = 0 := by
  have h1 : Spn (Ls S) (rst w S x) := (Spn.plus 1 (rst_spn (w := w) S x) hx).cast fun i => by show rst w S x i - x i + 1 * x i = _; omega
  refine red_zero h p h1 fun g hg => ?_
  have := rst_red h p x g hg
  omega
theorem rst_iff {w lo : Nat} {S : List Vc} (h : Ech w lo S) (p : Pos w S) {x : Vc} : (∀ i, rst w S x i = 0) ↔ Spn (Ls S) x :=
  ⟨fun z => ((rst_spn (w := w) S x).smul (-1)).cast fun i => by show -1 * (rst w S x i - x i) = x i; rw [z]; omega, rst_zero h p⟩
/-- a rest is the only row that is reduced and differs by one of the lattice -/
theorem rst_uniq {w lo : Nat} {S : List Vc} (h : Ech w lo S) (p : Pos w S) {x y : Vc} (hd : Spn (Ls S) fun i => y i - x i) (hr : ∀ g ∈ S, 0 ≤ y (pvt w g) ∧ y (pvt w g) < g (pvt w g)) : ∀ i, rst w S x i = y i := by
  have h1 : Spn (Ls S) fun i => rst w S x i - y i := (Spn.sub (rst_spn (w := w) S x) hd).cast fun i => by
    show rst w S x i - x i - (y i - x i) = _
    omega
  intro i
  have := red_zero h p h1 (fun g hg => by
    have b1 := hr g hg
    have b2 := rst_red h p x g hg
    omega) i
  omega
/-- what the rows are behind a row more -/
inductive Wr (w : Nat) : List Vc → Vc → List Vc → Prop
  | nilZ {x} : pvt w x = w → Wr w [] x []
  | nilN {x} : pvt w x < w → Wr w [] x [x]
  | skip {f S x R} : pvt w f < pvt w x → Wr w S x R → Wr w (f :: S) x (f :: R)
  | ins {f S x} : pvt w x < pvt w f → Wr w (f :: S) x (x :: f :: S)
  | merge {f S x R} (g u v a b : Int) : pvt w x = pvt w f → pvt w f < w → 0 < g → a * g = f (pvt w f) → b * g = x (pvt w f) → u * f (pvt w f) + v * x (pvt w f) = g →
      Wr w S (rst w S fun i => a * x i + -b * f i) R → Wr w (f :: S) x ((fun i => u * f i + v * x i) :: R)
theorem Wr.zero {w lo : Nat} {S R : List Vc} (h : Ech w lo S) {x : Vc} (hx : pvt w x = w) (r : Wr w S x R) : R = S := by
  induction r generalizing lo with
  | nilZ _ => rfl
  | nilN c => omega
  | skip _ _ ih =>
    cases h with
    | cons a b c => rw [ih c hx]
  | ins c =>
    cases h with
    | cons a b c' => omega
  | merge _ _ _ _ _ c d =>
    omega
theorem Wr.keep {w lo : Nat} {S : List Vc} (h : Ech w lo S) {x : Vc} (hx : pvt w x = w) : Wr w S x S := by
  induction h with
  | nil => exact .nilZ hx
  | cons a b c ih => exact .skip (by omega) ih
structure Wok (w lo : Nat) (S : List Vc) (x : Vc) (R : List Vc) : Prop where
  ech : Ech w lo R
  sub : ∀ f ∈ R, Spn (Ls (x :: S)) f
  sup : ∀ f ∈ x :: S, Spn (Ls R) f
theorem Wr.spec {w : Nat} {S R : List Vc} {x : Vc} (r : Wr w S x R) : ∀ lo, Ech w lo S → (∀ i, i < lo → x i = 0) → lo ≤ w → (∀ f ∈ x :: S, Sup w f) → Wok w lo S x R := by
  induction r with
  | @nilZ x c =>
    intro lo h hx _ hs
    refine ⟨.nil, fun f hf => absurd hf List.not_mem_nil, fun f hf => ?_⟩
    rcases List.mem_cons.mp hf with rfl | hf
    · exact Spn.zero.cast fun i => (zero_of (hs f hf) c i).symm
    · exact absurd hf List.not_mem_nil
  | @nilN x c =>
    intro lo h hx hl hs
    exact ⟨.cons (pvt_ge hl hx) c .nil, fun f hf => spn_mem hf, fun f hf => spn_mem hf⟩
  | @skip f S x R c r ih =>
    intro lo h hx hl hs
    cases h with
    | cons a b e =>
      have k := ih (pvt w f + 1) e (fun i hi => pvt_zero (w := w) i (by omega)) b (fun g hg => hs g (by
        rcases List.mem_cons.mp hg with rfl | hg
        · exact List.mem_cons_self
        · exact List.mem_cons_of_mem _ (List.mem_cons_of_mem _ hg)))
      refine ⟨.cons a b k.ech, fun g hg => ?_, fun g hg => ?_⟩
      · rcases List.mem_cons.mp hg with rfl | hg
        · exact spn_mem (List.mem_cons_of_mem _ List.mem_cons_self)
        · refine spn_sub (k.sub g hg) fun y hy => spn_mem ?_
          rcases List.mem_cons.mp hy with rfl | hy
          · exact List.mem_cons_self
          · exact List.mem_cons_of_mem _ (List.mem_cons_of_mem _ hy)
      · rcases List.mem_cons.mp hg with rfl | hg
        · exact spn_tail (k.sup _ List.mem_cons_self)
        · rcases List.mem_cons.mp hg with rfl | hg
          · exact spn_mem List.mem_cons_self
          · exact spn_tail (k.sup _ (List.mem_cons_of_mem _ hg))
  | @ins f S x c =>
    intro lo h hx hl hs
    cases h with
    | cons a b e => exact ⟨.cons (pvt_ge hl hx) (by omega) (.cons c b e), fun g hg => spn_mem hg, fun g hg => spn_mem hg⟩
  | @merge f S x R g u v a b e1 e2 hg ea eb eg r ih =>
    intro lo h hx hl hs
    cases h with
    | cons c1 c2 c3 =>
      have hlo : ∀ i, i < pvt w f + 1 → a * x i + -b * f i = 0 := fun i hi => by
        rcases Nat.lt_or_ge i (pvt w f) with z | z
        · rw [pvt_zero (w := w) (f := f) i z, pvt_zero (w := w) (f := x) i (by omega)]; omega
        · have : i = pvt w f := by omega
          subst this
          rw [← ea, ← eb]; grind
      have k := ih (pvt w f + 1) c3 (fun i hi => by rw [rst_low c3 _ _ hi]; exact hlo i hi) c2 (fun y hy => by
        rcases List.mem_cons.mp hy with rfl | hy
        · refine rst_sup (fun z hz => hs z (List.mem_cons_of_mem _ (List.mem_cons_of_mem _ hz))) fun i hi => ?_
          rw [hs x List.mem_cons_self i hi, hs f (List.mem_cons_of_mem _ List.mem_cons_self) i hi]; omega
        · exact hs y (List.mem_cons_of_mem _ (List.mem_cons_of_mem _ hy)))
      have hup : pvt w (fun i => u * f i + v * x i) = pvt w f := by
        refine pvt_eq c2 (fun j hj => ?_) ?_
        · rw [pvt_zero (w := w) (f := f) j hj, pvt_zero (w := w) (f := x) j (by omega)]; omega
        · rw [eg]; omega
      have hx1 : Spn (Ls (x :: f :: S)) fun i => u * f i + v * x i :=
        (Spn.plus v (Spn.smul u (spn_mem (List.mem_cons_of_mem _ List.mem_cons_self))) (spn_mem List.mem_cons_self))
      have hx2 : Spn (Ls (x :: f :: S)) fun i => a * x i + -b * f i :=
        (Spn.plus (-b) (Spn.smul a (spn_mem List.mem_cons_self)) (spn_mem (List.mem_cons_of_mem _ List.mem_cons_self)))
      refine ⟨?_, fun y hy => ?_, fun y hy => ?_⟩
      · refine .cons (by rw [hup]; exact c1) (by rw [hup]; exact c2) ?_
        rw [hup]
        exact k.ech
      · rcases List.mem_cons.mp hy with rfl | hy
        · exact hx1
        · refine spn_sub (k.sub y hy) fun z hz => ?_
          have hS : ∀ t ∈ S, Spn (Ls (x :: f :: S)) t := fun t ht => spn_mem (List.mem_cons_of_mem _ (List.mem_cons_of_mem _ ht))
          rcases List.mem_cons.mp hz with rfl | hz
          · refine spn_sub rst_in fun t ht => ?_
            rcases List.mem_cons.mp ht with rfl | ht
            · exact hx2
            · exact hS t ht
          · exact hS z hz
      · have up : Spn (Ls ((fun i => u * f i + v * x i) :: R)) fun i => u * f i + v * x i := spn_mem List.mem_cons_self
        have lw : Spn (Ls ((fun i => u * f i + v * x i) :: R)) fun i => a * x i + -b * f i := spn_tail (by
          refine spn_sub (rst_out (w := w) (S := S)) fun t ht => ?_
          exact k.sup t ht)
        have gg : ∀ z : Int, z = (u * a + v * b) * z := fun z => by
          have h1 : (u * a + v * b) * g = 1 * g := by rw [← ea, ← eb] at eg; grind
          rw [Int.eq_of_mul_eq_mul_right (by omega) h1]; omega
        rcases List.mem_cons.mp hy with rfl | hy
        · exact (Spn.plus b (Spn.smul u lw) up).cast fun i => by
            show u * (a * y i + -b * f i) + b * (u * f i + v * y i) = y i
            have := gg (y i)
            grind
        · rcases List.mem_cons.mp hy with rfl | hy
          · exact (Spn.plus a (Spn.smul (-v) lw) up).cast fun i => by
              show -v * (a * x i + -b * y i) + a * (u * y i + v * x i) = y i
              have := gg (y i)
              grind
          · exact spn_tail (k.sup y (List.mem_cons_of_mem _ hy))
def sgn (w : Nat) (r : Vc) : Vc := if r (pvt w r) < 0 then fun i => -1 * r i else r
def tidy (w : Nat) : List Vc → List Vc
  | [] => []
  | r :: R => rst w (tidy w R) (sgn w r) :: tidy w R
theorem sgn_pv {w : Nat} {r : Vc} {i : Nat} (h : r i = 0) : sgn w r i = 0 := by
  unfold sgn
  split
  · show -1 * r i = 0
    omega
  · exact h
theorem sgn_pos {w : Nat} {r : Vc} (h : pvt w r < w) : 0 < sgn w r (pvt w r) := by
  have := pvt_ne h
  unfold sgn
  split
  · show 0 < -1 * r (pvt w r)
    omega
  · omega
theorem sgn_spn {w : Nat} {r : Vc} {S : List Vc} (h : Spn (Ls S) r) : Spn (Ls S) (sgn w r) := by
  unfold sgn
  split
  · exact h.smul (-1)
  · exact h
theorem spn_sgn {w : Nat} {r : Vc} {S : List Vc} (h : Spn (Ls S) (sgn w r)) : Spn (Ls S) r := by
  unfold sgn at h
  split at h
  · exact (h.smul (-1)).cast fun i => by show -1 * (-1 * r i) = r i; omega
  · exact h
structure Tok' (w lo : Nat) (R T : List Vc) : Prop where
  ech : Ech w lo T
  red : Red w T
  piv : T.map (pvt w) = R.map (pvt w)
  sub : ∀ f ∈ T, Spn (Ls R) f
  sup : ∀ f ∈ R, Spn (Ls T) f
theorem tidy_ok {w lo : Nat} {R : List Vc} (h : Ech w lo R) : Tok' w lo R (tidy w R) := by
  induction h with
  | nil => exact ⟨.nil, .nil, rfl, fun f hf => absurd hf List.not_mem_nil, fun f hf => absurd hf List.not_mem_nil⟩
  | @cons lo f S a b c k =>
    have lw : ∀ i, i < pvt w f + 1 → rst w (tidy w S) (sgn w f) i = sgn w f i := fun i hi => rst_low k.ech _ _ hi
    have e : pvt w (rst w (tidy w S) (sgn w f)) = pvt w f := by
      refine pvt_eq b (fun j hj => ?_) ?_
      · rw [lw j (by omega)]; exact sgn_pv (pvt_zero j hj)
      · rw [lw _ (by omega)]
        have := sgn_pos b
        omega
    refine ⟨?_, ?_, ?_, fun g hg => ?_, fun g hg => ?_⟩
    · refine .cons (by rw [e]; exact a) (by rw [e]; exact b) ?_
      rw [e]
      exact k.ech
    · refine .cons ?_ (fun g hg => rst_red k.ech k.red.pos _ g hg) k.red
      rw [e, lw _ (by omega)]
      exact sgn_pos b
    · show pvt w (rst w (tidy w S) (sgn w f)) :: (tidy w S).map (pvt w) = pvt w f :: S.map (pvt w)
      rw [e, k.piv]
    · rcases List.mem_cons.mp hg with rfl | hg
      · refine spn_sub rst_in fun y hy => ?_
        rcases List.mem_cons.mp hy with rfl | hy
        · exact sgn_spn (spn_mem List.mem_cons_self)
        · exact spn_tail (k.sub y hy)
      · exact spn_tail (k.sub g hg)
    · rcases List.mem_cons.mp hg with rfl | hg
      · exact spn_sgn (w := w) rst_out
      · exact spn_tail (k.sup g hg)
theorem tidy_sup {w : Nat} : ∀ {R : List Vc}, (∀ f ∈ R, Sup w f) → ∀ f ∈ tidy w R, Sup w f
  | [], _, f, hf => absurd hf List.not_mem_nil
  | r :: R, h, f, hf => by
    have ih := tidy_sup (w := w) (R := R) fun g hg => h g (List.mem_cons_of_mem _ hg)
    rcases List.mem_cons.mp hf with rfl | hf
    · refine rst_sup ih fun i hi => ?_
      exact sgn_pv (h r List.mem_cons_self i hi)
    · exact ih f hf
/-- the reduced table of the rows -/
structure Tb (w : Nat) (R T : List Vc) : Prop where
  ech : Ech w 0 T
  red : Red w T
  sub : ∀ f ∈ T, Spn (Ls R) f
  sup : ∀ f ∈ R, Spn (Ls T) f
theorem Tb.nil {w : Nat} : Tb w [] [] := ⟨.nil, .nil, fun f hf => absurd hf List.not_mem_nil, fun f hf => absurd hf List.not_mem_nil⟩
theorem Tb.uniq {w : Nat} {R R' T T' : List Vc} (h : Tb w R T) (h' : Tb w R' T') (a : ∀ f ∈ R, Spn (Ls R') f) (b : ∀ f ∈ R', Spn (Ls R) f) : T = T' :=
  red_uniq h.ech h'.ech h.red h'.red (fun f hf => spn_sub (spn_sub (h.sub f hf) a) h'.sup) (fun f hf => spn_sub (spn_sub (h'.sub f hf) b) h.sup)
theorem Tb.sups {w : Nat} {R T : List Vc} (h : Tb w R T) (s : ∀ f ∈ R, Sup w f) : ∀ f ∈ T, Sup w f := fun f hf => (h.sub f hf).sup s
theorem Tb.next {w : Nat} {R T U : List Vc} {x : Vc} (h : Tb w R T) (s : ∀ f ∈ R ++ [x], Sup w f) (r : Wr w T (rst w T x) U) : Tb w (R ++ [x]) (tidy w U) ∧ Tok' w 0 U (tidy w U) := by
  have sT : ∀ f ∈ T, Sup w f := h.sups fun f hf => s f (List.mem_append_left _ hf)
  have k := r.spec 0 h.ech (fun i hi => absurd hi (Nat.not_lt_zero i)) (Nat.zero_le _) (fun f hf => by
    rcases List.mem_cons.mp hf with rfl | hf
    · exact rst_sup sT (s x (List.mem_append_right _ List.mem_cons_self))
    · exact sT f hf)
  have t := tidy_ok k.ech
  have mR : ∀ f ∈ R, Spn (Ls (R ++ [x])) f := fun f hf => spn_mem (List.mem_append_left _ hf)
  have mx : Spn (Ls (R ++ [x])) x := spn_mem (List.mem_append_right _ List.mem_cons_self)
  refine ⟨⟨t.ech, t.red, fun f hf => ?_, fun f hf => ?_⟩, t⟩
  · refine spn_sub (spn_sub (t.sub f hf) k.sub) fun y hy => ?_
    have hT : ∀ z ∈ T, Spn (Ls (R ++ [x])) z := fun z hz => spn_sub (h.sub z hz) mR
    rcases List.mem_cons.mp hy with rfl | hy
    · refine spn_sub rst_in fun z hz => ?_
      rcases List.mem_cons.mp hz with rfl | hz
      · exact mx
      · exact hT z hz
    · exact hT y hy
  · have hU : ∀ y ∈ rst w T x :: T, Spn (Ls (tidy w U)) y := fun y hy => spn_sub (k.sup y hy) t.sup
    rcases List.mem_append.mp hf with hf | hf
    · exact spn_sub (h.sup f hf) fun z hz => hU z (List.mem_cons_of_mem _ hz)
    · rw [List.mem_singleton.mp hf]
      exact spn_sub rst_out hU

/-! ### how large the items of a reduced table are -/
def cmb : List Int → List Vc → Vc
  | c :: cs, f :: fs => fun i => c * f i + cmb cs fs i
  | _, _ => fun _ => 0
theorem cmb_spn {S : List Vc} : ∀ (cs : List Int) (I : List Vc), (∀ f ∈ I, Spn (Ls S) f) → Spn (Ls S) (cmb cs I)
  | [], _, _ => .zero
  | c :: cs, [], _ => .zero
  | c :: cs, f :: fs, h => (Spn.plus c (cmb_spn cs fs fun g hg => h g (List.mem_cons_of_mem _ hg)) (h f List.mem_cons_self)).cast fun i => by
    show cmb cs fs i + c * f i = c * f i + cmb cs fs i
    omega
theorem cmb_sub {I : List Vc} : ∀ (cs ds : List Nat), cs.length = I.length → ds.length = I.length → ∀ i,
    cmb (List.zipWith (fun x y : Nat => (x : Int) - (y : Int)) cs ds) I i = cmb (cs.map fun x : Nat => (x : Int)) I i - cmb (ds.map fun x : Nat => (x : Int)) I i := by
  induction I with
  | nil =>
    intro cs ds h1 h2 i
    cases cs with
    | nil => cases ds with
      | nil => rfl
      | cons _ _ => cases h2
    | cons _ _ => cases h1
  | cons f I ih =>
    intro cs ds h1 h2 i
    cases cs with
    | nil => cases h1
    | cons c cs => cases ds with
      | nil => cases h2
      | cons d ds =>
        show ((c : Int) - (d : Int)) * f i + cmb _ I i = (c : Int) * f i + cmb _ I i - ((d : Int) * f i + cmb _ I i)
        rw [ih cs ds (Nat.succ.inj h1) (Nat.succ.inj h2) i]
        grind
theorem cmb_bd {N M : Nat} {i : Nat} : ∀ (cs : List Int) (I : List Vc), (∀ c ∈ cs, c.natAbs ≤ N) → (∀ f ∈ I, (f i).natAbs ≤ M) → (cmb cs I i).natAbs ≤ I.length * (N * M)
  | [], I, _, _ => by show (0 : Int).natAbs ≤ _; rw [Int.natAbs_zero]; exact Nat.zero_le _
  | c :: cs, [], _, _ => Nat.zero_le _
  | c :: cs, f :: fs, h1, h2 => by
    have ih := cmb_bd cs fs (fun d hd => h1 d (List.mem_cons_of_mem _ hd)) fun g hg => h2 g (List.mem_cons_of_mem _ hg)
    have a := Nat.mul_le_mul (h1 c List.mem_cons_self) (h2 f List.mem_cons_self)
    show (c * f i + cmb cs fs i).natAbs ≤ (fs.length + 1) * (N * M)
    have b : (c * f i).natAbs ≤ N * M := by rw [Int.natAbs_mul]; exact a
    have e : (fs.length + 1) * (N * M) = fs.length * (N * M) + N * M := by rw [Nat.add_mul, Nat.one_mul]
    rw [e]
    have := Int.natAbs_add_le (c * f i) (cmb cs fs i)
    omega
theorem cmb_snoc {x : Vc} {b : Int} : ∀ (cs : List Int) (I : List Vc), cs.length = I.length → ∀ i, cmb (cs ++ [b]) (I ++ [x]) i = cmb cs I i + b * x i
  | [], [], _, i => by show b * x i + 0 = 0 + b * x i; omega
  | c :: cs, f :: fs, h, i => by
    show c * f i + cmb (cs ++ [b]) (fs ++ [x]) i = c * f i + cmb cs fs i + b * x i
    rw [cmb_snoc cs fs (Nat.succ.inj h) i]
    omega
def Ind (I : List Vc) : Prop := ∀ cs : List Int, cs.length = I.length → (∀ i, cmb cs I i = 0) → ∀ c ∈ cs, c = 0
/-! #### pigeons -/
theorem cls {α : Type} (f : α → Nat) : ∀ (K : Nat) (L : List α) (m : Nat), (∀ x ∈ L, f x < K) → m * K < L.length → ∃ v, m < (L.filter fun x => f x == v).length
  | 0, L, m, h, hl => by
    cases L with
    | nil => exact absurd hl (Nat.not_lt_zero _)
    | cons x L => exact absurd (h x List.mem_cons_self) (Nat.not_lt_zero _)
  | K + 1, L, m, h, hl => by
    by_cases c : m < (L.filter fun x => f x == K).length
    · exact ⟨K, c⟩
    · have e : (L.filter fun x => f x == K).length + (L.filter fun x => !(f x == K)).length = L.length := by
        rw [← List.countP_eq_length_filter, ← List.countP_eq_length_filter]
        have := List.length_eq_countP_add_countP (fun x => f x == K) (l := L)
        simp only [Bool.not_eq_true, decide_not] at this ⊢
        rw [this]
        congr 1
        refine List.countP_congr fun x _ => ?_
        cases f x == K <;> simp
      have hm : m * (K + 1) = m * K + m := by rw [Nat.mul_add, Nat.mul_one]
      obtain ⟨v, hv⟩ := cls f K (L.filter fun x => !(f x == K)) m (fun x hx => by
        have h1 := (List.mem_filter.mp hx)
        have h2 := h x h1.1
        have h3 : f x ≠ K := by simpa using h1.2
        omega) (by omega)
      refine ⟨v, Nat.lt_of_lt_of_le hv ?_⟩
      exact (List.Sublist.filter _ List.filter_sublist).length_le
theorem clss {α : Type} (K : Nat) : ∀ (fs : List (α → Nat)) (L : List α), (∀ f ∈ fs, ∀ x ∈ L, f x < K) → K ^ fs.length < L.length → L.Nodup → ∃ x y, x ∈ L ∧ y ∈ L ∧ x ≠ y ∧ ∀ f ∈ fs, f x = f y
  | [], L, _, hl, hn => by
    match L, hl, hn with
    | [], hl, _ => exact absurd hl (Nat.not_lt_zero _)
    | [x], hl, _ => exact absurd hl (Nat.lt_irrefl 1)
    | x :: y :: L, _, hn =>
      refine ⟨x, y, List.mem_cons_self, List.mem_cons_of_mem _ List.mem_cons_self, ?_, fun f hf => absurd hf List.not_mem_nil⟩
      intro e
      exact (List.nodup_cons.mp hn).1 (by rw [e]; exact List.mem_cons_self)
  | f :: fs, L, h, hl, hn => by
    obtain ⟨v, hv⟩ := cls f K L (K ^ fs.length) (h f List.mem_cons_self) (by rw [List.length_cons, Nat.pow_succ] at hl; exact hl)
    obtain ⟨x, y, hx, hy, ne, e⟩ := clss K fs (L.filter fun x => f x == v) (fun g hg x hx => h g (List.mem_cons_of_mem _ hg) x (List.mem_filter.mp hx).1) hv (hn.filter _)
    refine ⟨x, y, (List.mem_filter.mp hx).1, (List.mem_filter.mp hy).1, ne, fun g hg => ?_⟩
    rcases List.mem_cons.mp hg with rfl | hg
    · have h1 : g x = v := by simpa using (List.mem_filter.mp hx).2
      have h2 : g y = v := by simpa using (List.mem_filter.mp hy).2
      rw [h1, h2]
    · exact e g hg
def vecs (N : Nat) : Nat → List (List Nat)
  | 0 => [[]]
  | k + 1 => (List.range (N + 1)).flatMap fun a => (vecs N k).map (a :: ·)
theorem vecs_len {N : Nat} : ∀ k, (vecs N k).length = (N + 1) ^ k
  | 0 => rfl
  | k + 1 => by
    show ((List.range (N + 1)).flatMap fun a => (vecs N k).map (a :: ·)).length = _
    rw [List.length_flatMap]
    have : (List.range (N + 1)).map (fun a => ((vecs N k).map (a :: ·)).length) = List.replicate (N + 1) ((N + 1) ^ k) := by
      rw [List.eq_replicate_iff]
      refine ⟨by rw [List.length_map, List.length_range], fun b hb => ?_⟩
      obtain ⟨a, _, rfl⟩ := List.mem_map.mp hb
      rw [List.length_map, vecs_len k]
    rw [this, List.sum_replicate_nat, Nat.pow_succ, Nat.mul_comm]
theorem vecs_mem {N : Nat} : ∀ k, ∀ a ∈ vecs N k, a.length = k ∧ ∀ x ∈ a, x ≤ N
  | 0, a, h => by
    rw [List.mem_singleton.mp h]
    exact ⟨rfl, fun x hx => absurd hx List.not_mem_nil⟩
  | k + 1, a, h => by
    obtain ⟨x, hx, h⟩ := List.mem_flatMap.mp h
    obtain ⟨b, hb, rfl⟩ := List.mem_map.mp h
    obtain ⟨h1, h2⟩ := vecs_mem k b hb
    refine ⟨by rw [List.length_cons, h1], fun y hy => ?_⟩
    rcases List.mem_cons.mp hy with rfl | hy
    · have := List.mem_range.mp hx
      omega
    · exact h2 y hy
theorem vecs_nodup {N : Nat} : ∀ k, (vecs N k).Nodup
  | 0 => List.nodup_cons.mpr ⟨List.not_mem_nil, List.nodup_nil⟩
  | k + 1 => by
    show List.Pairwise _ _
    refine List.pairwise_flatMap.mpr ⟨fun a _ => ?_, ?_⟩
    · refine List.pairwise_map.mpr ((vecs_nodup k).imp fun {x y} h e => h ?_)
      cases e; rfl
    · refine List.nodup_range.imp fun {a b} h x hx y hy e => ?_
      obtain ⟨x', _, rfl⟩ := List.mem_map.mp hx
      obtain ⟨y', _, rfl⟩ := List.mem_map.mp hy
      cases e
      exact h rfl
theorem zip_zero : ∀ {a b : List Nat}, a.length = b.length → (∀ d ∈ List.zipWith (fun x y : Nat => (x : Int) - (y : Int)) a b, d = 0) → a = b
  | [], [], _, _ => rfl
  | x :: a, y :: b, hl, h => by
    have h1 := h ((x : Int) - (y : Int)) List.mem_cons_self
    have h2 := zip_zero (a := a) (b := b) (Nat.succ.inj hl) fun d hd => h d (List.mem_cons_of_mem _ hd)
    rw [h2, show x = y by omega]
theorem zip_bd {N : Nat} : ∀ {a b : List Nat}, (∀ x ∈ a, x ≤ N) → (∀ x ∈ b, x ≤ N) → ∀ d ∈ List.zipWith (fun x y : Nat => (x : Int) - (y : Int)) a b, d.natAbs ≤ N
  | [], _, _, _, d, hd => by simp at hd
  | _ :: _, [], _, _, d, hd => by simp at hd
  | x :: a, y :: b, ha, hb, d, hd => by
    rcases List.mem_cons.mp hd with z | hd
    · have := ha x List.mem_cons_self
      have := hb y List.mem_cons_self
      have e : d = (x : Int) - (y : Int) := z
      rw [e]
      omega
    · exact zip_bd (fun z hz => ha z (List.mem_cons_of_mem _ hz)) (fun z hz => hb z (List.mem_cons_of_mem _ hz)) d hd
/-- a small relation: of n + 1 rows at n places -/
theorem small_rel {n M : Nat} {I : List Vc} {C : List Nat} (hI : I.length = n + 1) (hC : C.length = n) (hb : ∀ f ∈ I, ∀ c ∈ C, (f c).natAbs ≤ M) :
    ∃ ds : List Int, ds.length = n + 1 ∧ (∃ d ∈ ds, d ≠ 0) ∧ (∀ d ∈ ds, d.natAbs ≤ (2 * (n + 1) * M + 1) ^ n) ∧ ∀ c ∈ C, cmb ds I c = 0 := by
  let N := (2 * (n + 1) * M + 1) ^ n
  let W := (n + 1) * (N * M)
  have bd : ∀ a ∈ vecs N (n + 1), ∀ c ∈ C, (cmb (a.map fun x : Nat => (x : Int)) I c).natAbs ≤ W := fun a ha c hc => by
    have h := (vecs_mem _ a ha).2
    have := cmb_bd (N := N) (M := M) (i := c) (a.map fun x : Nat => (x : Int)) I (fun z hz => by
      obtain ⟨x, hx, rfl⟩ := List.mem_map.mp hz
      have := h x hx
      omega) fun f hf => hb f hf c hc
    rw [hI] at this
    exact this
  obtain ⟨a, b, ha, hb', ne, e⟩ := clss (2 * W + 1) (C.map fun c (a : List Nat) => (cmb (a.map fun x : Nat => (x : Int)) I c + (W : Int)).toNat) (vecs N (n + 1)) (by
    intro f hf a ha
    obtain ⟨c, hc, rfl⟩ := List.mem_map.mp hf
    have := bd a ha c hc
    show (cmb (a.map fun x : Nat => (x : Int)) I c + (W : Int)).toNat < _
    omega) (by
    rw [List.length_map, hC, vecs_len]
    have h1 : 2 * W + 1 ≤ (2 * (n + 1) * M + 1) * (N + 1) := by
      show 2 * ((n + 1) * (N * M)) + 1 ≤ _
      have : (2 * (n + 1) * M + 1) * (N + 1) = 2 * ((n + 1) * (N * M)) + 2 * (n + 1) * M + N + 1 := by
        grind
      omega
    have h2 := Nat.pow_le_pow_left h1 n
    rw [Nat.mul_pow] at h2
    have h3 : (N + 1) ^ (n + 1) = (N + 1) ^ n * N + (N + 1) ^ n := by rw [Nat.pow_succ, Nat.mul_add, Nat.mul_one]
    have h4 : 0 < (N + 1) ^ n := Nat.pow_pos (by omega)
    have h5 : (2 * (n + 1) * M + 1) ^ n * (N + 1) ^ n = (N + 1) ^ n * N := Nat.mul_comm _ _
    omega) (vecs_nodup _)
  have la := (vecs_mem _ a ha)
  have lb := (vecs_mem _ b hb')
  refine ⟨List.zipWith (fun x y : Nat => (x : Int) - (y : Int)) a b, by rw [List.length_zipWith, la.1, lb.1, Nat.min_self], ?_, zip_bd la.2 lb.2, fun c hc => ?_⟩
  · refine Classical.byContradiction fun z => ne (zip_zero (la.1.trans lb.1.symm) fun d hd => ?_)
    exact Classical.byContradiction fun y => z ⟨d, hd, y⟩
  · rw [cmb_sub a b (la.1.trans hI.symm) (lb.1.trans hI.symm)]
    have h1 := e _ (List.mem_map.mpr ⟨c, hc, rfl⟩)
    have h2 := bd a ha c hc
    have h3 := bd b hb' c hc
    have h1' : (cmb (a.map fun x : Nat => (x : Int)) I c + (W : Int)).toNat = (cmb (b.map fun x : Nat => (x : Int)) I c + (W : Int)).toNat := h1
    omega
/-! #### small rows of the lattice -/
theorem spn_drop {w lo : Nat} : ∀ {A B : List Vc}, Ech w lo (A ++ B) → ∀ {x : Vc}, Spn (Ls (A ++ B)) x → (∀ f ∈ A, x (pvt w f) = 0) → Spn (Ls B) x := by
  intro A
  induction A generalizing lo with
  | nil => intro B _ x hx _; exact hx
  | cons f A ih =>
    intro B h x hx h0
    have h1 := spn_head h hx (h0 f List.mem_cons_self)
    cases h with
    | cons a b c => exact ih c h1 fun g hg => h0 g (List.mem_cons_of_mem _ hg)
/-- the bound of small rows -/
def zB (n M : Nat) : Nat := (n + 1) * ((2 * (n + 1) * M + 1) ^ n * M)
theorem small_row {w lo n M : Nat} {A B I : List Vc} {g : Vc} (h : Ech w lo (A ++ g :: B)) (p : Pos w (A ++ g :: B)) (hI : I.length = n + 1) (hl : (A ++ g :: B).length = n + 1)
    (sI : ∀ f ∈ I, Spn (Ls (A ++ g :: B)) f) (iI : Ind I) (hb : ∀ f ∈ I, ∀ i, (f i).natAbs ≤ M) :
    ∃ z : Vc, Spn (Ls (A ++ g :: B)) z ∧ (∀ f ∈ A ++ B, z (pvt w f) = 0) ∧ z (pvt w g) ≠ 0 ∧ ∀ i, (z i).natAbs ≤ zB n M := by
  obtain ⟨ds, h1, ⟨d, hd, nd⟩, h3, h4⟩ := small_rel (C := (A ++ B).map (pvt w)) hI (by
    rw [List.length_append, List.length_cons] at hl
    rw [List.length_map, List.length_append]
    omega) fun f hf c _ => hb f hf c
  have hs := cmb_spn ds I sI
  have h0 : ∀ f ∈ A ++ B, cmb ds I (pvt w f) = 0 := fun f hf => h4 _ (List.mem_map.mpr ⟨f, hf, rfl⟩)
  refine ⟨cmb ds I, hs, h0, fun z => ?_, fun i => ?_⟩
  · refine nd (iI ds (h1.trans hI.symm) (red_zero h p hs fun f hf => ?_) d hd)
    have z' : cmb ds I (pvt w f) = 0 := by
      rcases List.mem_append.mp hf with hf | hf
      · exact h0 f (List.mem_append_left _ hf)
      · rcases List.mem_cons.mp hf with rfl | hf
        · exact z
        · exact h0 f (List.mem_append_right _ hf)
    rw [z']
    have := p f hf
    omega
  · have := cmb_bd ds I h3 (fun f hf => hb f hf i)
    rw [hI] at this
    exact this
theorem piv_le {w lo n M : Nat} {S I : List Vc} (h : Ech w lo S) (p : Pos w S) (hI : I.length = n + 1) (hl : S.length = n + 1) (sI : ∀ f ∈ I, Spn (Ls S) f) (iI : Ind I) (hb : ∀ f ∈ I, ∀ i, (f i).natAbs ≤ M) :
    ∀ g ∈ S, (g (pvt w g)).natAbs ≤ zB n M := by
  intro g hg
  obtain ⟨A, B, rfl⟩ := List.append_of_mem hg
  obtain ⟨z, z1, z2, z3, z4⟩ := small_row h p hI hl sI iI hb
  have y := spn_drop h z1 fun f hf => z2 f (List.mem_append_left _ hf)
  obtain ⟨c, y', hy, e⟩ := spn_cons y
  have hB : Ech w (pvt w g + 1) B := by
    clear z1 z2 z3 z4 sI hl p hg y
    induction A generalizing lo with
    | nil => cases h with
      | cons a b c => exact c
    | cons f A ih => cases h with
      | cons a b c => exact ih c
  have e1 := e (pvt w g)
  rw [hB.low hy _ (by omega), Int.zero_add] at e1
  have := z4 (pvt w g)
  rw [e1, Int.natAbs_mul] at this
  have c0 : 1 ≤ c.natAbs := by
    have : c ≠ 0 := fun z => z3 (by rw [e1, z]; omega)
    omega
  have := Nat.mul_le_mul_right (g (pvt w g)).natAbs c0
  omega
theorem elim {w lo n M V : Nat} {S I : List Vc} (h : Ech w lo S) (p : Pos w S) (hI : I.length = n + 1) (hl : S.length = n + 1) (sI : ∀ f ∈ I, Spn (Ls S) f) (iI : Ind I) (hb : ∀ f ∈ I, ∀ i, (f i).natAbs ≤ M)
    {v : Vc} (hv : Spn (Ls S) v) (vb : ∀ g ∈ S, (v (pvt w g)).natAbs ≤ V) : ∀ (k : Nat) (A B : List Vc), A.length = k → S = A ++ B → ∃ (e : Int) (y : Vc), e ≠ 0 ∧ Spn (Ls S) y ∧ (∀ g ∈ A, y (pvt w g) = 0) ∧ (∀ g ∈ B, y (pvt w g) = e * v (pvt w g)) ∧
      ∀ i, (e * v i - y i).natAbs ≤ e.natAbs * (k * (V * zB n M)) := by
  intro k
  induction k with
  | zero =>
    intro A B hA e
    refine ⟨1, v, by omega, hv, fun g hg => ?_, fun g _ => by omega, fun i => by rw [Int.one_mul, Int.sub_self]; exact Nat.zero_le _⟩
    rw [List.eq_nil_of_length_eq_zero hA] at hg
    exact absurd hg List.not_mem_nil
  | succ k ih =>
    intro A' B hA e
    obtain ⟨A, g, rfl⟩ : ∃ A g, A' = A ++ [g] := by
      rcases List.eq_nil_or_concat A' with z | ⟨A, g, z⟩
      · rw [z] at hA; cases hA
      · exact ⟨A, g, by rw [z, List.concat_eq_append]⟩
    rw [List.append_assoc] at e
    have e' : S = A ++ g :: B := e
    have hA' : A.length = k := by rw [List.length_append] at hA; exact Nat.succ.inj hA
    obtain ⟨c, y, c0, hy, y1, y2, y3⟩ := ih A (g :: B) hA' e'
    subst e'
    obtain ⟨z, z1, z2, z3, z4⟩ := small_row h p hI hl sI iI hb
    refine ⟨z (pvt w g) * c, fun i => z (pvt w g) * y i + -(c * v (pvt w g)) * z i, Int.mul_ne_zero z3 c0, Spn.plus _ (Spn.smul _ hy) z1, fun f hf => ?_, fun f hf => ?_, fun i => ?_⟩
    · rcases List.mem_append.mp hf with hf | hf
      · show z (pvt w g) * y (pvt w f) + -(c * v (pvt w g)) * z (pvt w f) = 0
        rw [y1 f hf, z2 f (List.mem_append_left _ hf)]; omega
      · rw [List.mem_singleton.mp hf]
        show z (pvt w g) * y (pvt w g) + -(c * v (pvt w g)) * z (pvt w g) = 0
        rw [y2 g List.mem_cons_self]; grind
    · show z (pvt w g) * y (pvt w f) + -(c * v (pvt w g)) * z (pvt w f) = z (pvt w g) * c * v (pvt w f)
      rw [y2 f (List.mem_cons_of_mem _ hf), z2 f (List.mem_append_right _ hf)]; grind
    · have b1 := y3 i
      have b2 := z4 i
      have b3 := vb g (List.mem_append_right _ List.mem_cons_self)
      have e1 : z (pvt w g) * c * v i - (z (pvt w g) * y i + -(c * v (pvt w g)) * z i) = z (pvt w g) * (c * v i - y i) + c * (v (pvt w g) * z i) := by grind
      rw [e1]
      have z0 : 1 ≤ (z (pvt w g)).natAbs := by omega
      have t := Int.natAbs_add_le (z (pvt w g) * (c * v i - y i)) (c * (v (pvt w g) * z i))
      rw [Int.natAbs_mul, Int.natAbs_mul, Int.natAbs_mul] at t
      have t1 := Nat.mul_le_mul_left (z (pvt w g)).natAbs b1
      have t2 := Nat.mul_le_mul b3 b2
      have t3 := Nat.mul_le_mul_left c.natAbs t2
      have t4 := Nat.mul_le_mul_right (c.natAbs * (V * zB n M)) z0
      rw [Int.natAbs_mul]
      have e2 : (z (pvt w g)).natAbs * c.natAbs * ((k + 1) * (V * zB n M)) = (z (pvt w g)).natAbs * (c.natAbs * (k * (V * zB n M))) + (z (pvt w g)).natAbs * (c.natAbs * (V * zB n M)) := by grind
      rw [e2]
      omega
theorem row_le {w lo n M V : Nat} {S I : List Vc} (h : Ech w lo S) (p : Pos w S) (hI : I.length = n + 1) (hl : S.length = n + 1) (sI : ∀ f ∈ I, Spn (Ls S) f) (iI : Ind I) (hb : ∀ f ∈ I, ∀ i, (f i).natAbs ≤ M)
    {v : Vc} (hv : Spn (Ls S) v) (vb : ∀ g ∈ S, (v (pvt w g)).natAbs ≤ V) : ∀ i, (v i).natAbs ≤ (n + 1) * (V * zB n M) := by
  intro i
  obtain ⟨e, y, e0, hy, y1, _, y3⟩ := elim h p hI hl sI iI hb hv vb (n + 1) S [] hl (by simp)
  have z := red_zero h p hy fun g hg => by
    rw [y1 g hg]
    have := p g hg
    omega
  have := y3 i
  rw [z i, Int.sub_zero, Int.natAbs_mul] at this
  exact Nat.le_of_mul_le_mul_left this (by omega)
/-! #### rows that stand for the lattice -/
theorem lead {w lo : Nat} {S : List Vc} (h : Ech w lo S) : ∀ {x : Vc}, Spn (Ls S) x → pvt w x < w → pvt w x ∈ S.map (pvt w) := by
  induction h with
  | nil =>
    intro x hx hw
    exact absurd (spn_nil hx _) (pvt_ne hw)
  | @cons lo f S a b c ih =>
    intro x hx hw
    obtain ⟨k, y, hy, e⟩ := spn_cons hx
    by_cases hk : k = 0
    · have : x = y := funext fun i => by rw [e, hk]; omega
      rw [this] at hw ⊢
      exact List.mem_cons_of_mem _ (ih hy hw)
    · have : pvt w x = pvt w f := by
        refine pvt_eq b (fun j hj => ?_) ?_
        · rw [e, c.low hy j (by omega), pvt_zero (w := w) (f := f) j hj]; omega
        · rw [e, c.low hy _ (by omega), Int.zero_add]
          exact Int.mul_ne_zero hk (pvt_ne b)
      rw [this]
      exact List.mem_cons_self
theorem Ech.nodup {w lo : Nat} {S : List Vc} (h : Ech w lo S) : (S.map (pvt w)).Nodup := by
  induction h with
  | nil => exact List.nodup_nil
  | @cons lo f S a b c ih =>
    refine List.nodup_cons.mpr ⟨fun hm => ?_, ih⟩
    obtain ⟨g, hg, e⟩ := List.mem_map.mp hm
    have := (c.mem g hg).1
    omega
theorem nodup_len : ∀ {a b : List Nat}, a.Nodup → (∀ x ∈ a, x ∈ b) → a.length ≤ b.length
  | [], _, _, _ => Nat.zero_le _
  | x :: a, b, hn, h => by
    have hx := h x List.mem_cons_self
    have ih := nodup_len (a := a) (b := b.erase x) (List.nodup_cons.mp hn).2 fun y hy => by
      refine (List.mem_erase_of_ne ?_).mpr (h y (List.mem_cons_of_mem _ hy))
      intro e
      exact (List.nodup_cons.mp hn).1 (by rw [← e]; exact hy)
    rw [List.length_erase_of_mem hx] at ih
    have := List.length_pos_of_mem hx
    rw [List.length_cons]
    omega
structure Rep (w : Nat) (R T I : List Vc) : Prop where
  len : I.length = T.length
  ind : Ind I
  mem : ∀ f ∈ I, f ∈ R
theorem Rep.nil {w : Nat} : Rep w [] [] [] := ⟨rfl, fun cs h _ c hc => by rw [List.eq_nil_of_length_eq_zero h] at hc; exact absurd hc List.not_mem_nil, fun f hf => hf⟩
theorem Wr.len {w : Nat} {S R : List Vc} {x : Vc} (r : Wr w S x R) : R.length = S.length ∨ R.length = S.length + 1 := by
  induction r with
  | nilZ _ => exact .inl rfl
  | nilN _ => exact .inr rfl
  | skip _ _ ih => simpa using ih
  | ins _ => exact .inr rfl
  | merge _ _ _ _ _ _ _ _ _ _ _ _ ih => simpa using ih
theorem tidy_len {w : Nat} : ∀ R : List Vc, (tidy w R).length = R.length
  | [] => rfl
  | r :: R => by
    show (tidy w R).length + 1 = R.length + 1
    rw [tidy_len R]
theorem Rep.next {w : Nat} {R T T' I : List Vc} {x : Vc} (h : Rep w R T I) (t : Tb w R T) (t' : Tb w (R ++ [x]) T') (hl : T'.length = T.length ∨ T'.length = T.length + 1) : ∃ I', Rep w (R ++ [x]) T' I' := by
  rcases hl with hl | hl
  · exact ⟨I, h.len.trans hl.symm, h.ind, fun f hf => List.mem_append_left _ (h.mem f hf)⟩
  · refine ⟨I ++ [x], by rw [List.length_append, h.len, hl]; rfl, fun cs hc h0 => ?_, fun f hf => ?_⟩
    · obtain ⟨ds, b, rfl⟩ : ∃ ds b, cs = ds ++ [b] := by
        rcases List.eq_nil_or_concat cs with z | ⟨A, g, z⟩
        · rw [z, List.length_append] at hc; cases hc
        · exact ⟨A, g, by rw [z, List.concat_eq_append]⟩
      have ld : ds.length = I.length := by
        rw [List.length_append, List.length_append] at hc
        exact Nat.succ.inj hc
      have e : ∀ i, cmb ds I i + b * x i = 0 := fun i => by rw [← cmb_snoc ds I ld]; exact h0 i
      by_cases hb : b = 0
      · intro c hc
        rcases List.mem_append.mp hc with hc | hc
        · refine h.ind ds ld (fun i => ?_) c hc
          have := e i
          rw [hb] at this
          omega
        · rw [List.mem_singleton.mp hc, hb]
      · exfalso
        have hI : ∀ f ∈ I, Spn (Ls T) f := fun f hf => t.sup f (h.mem f hf)
        have hx : Spn (Ls T) fun i => b * x i := ((cmb_spn ds I hI).smul (-1)).cast fun i => by
          have := e i
          show -1 * cmb ds I i = b * x i
          omega
        have hall : ∀ f, Spn (Ls (R ++ [x])) f → Spn (Ls T) fun i => b * f i := fun f hf => by
          refine hf.ind (p := fun f => Spn (Ls T) fun i => b * f i) (Spn.zero.cast fun i => by show (0 : Int) = b * 0; omega) fun f g c ih hg => ?_
          have hg' : Spn (Ls T) fun i => b * g i := by
            rcases List.mem_append.mp hg with hg | hg
            · exact (t.sup g hg).smul b
            · rw [List.mem_singleton.mp hg]; exact hx
          exact (Spn.plus c ih hg').cast fun i => by
            show b * f i + c * (b * g i) = b * (f i + c * g i)
            grind
        have : T'.length ≤ T.length := by
          have := nodup_len (a := T'.map (pvt w)) (b := T.map (pvt w)) t'.ech.nodup fun q hq => by
            obtain ⟨f, hf, rfl⟩ := List.mem_map.mp hq
            have hw := (t'.ech.mem f hf).2
            have hp : pvt w (fun i => b * f i) = pvt w f := by
              refine pvt_eq hw (fun j hj => ?_) (Int.mul_ne_zero hb (pvt_ne hw))
              rw [pvt_zero (w := w) (f := f) j hj]; omega
            rw [← hp]
            exact lead t.ech (hall f (t'.sub f hf)) (by rw [hp]; exact hw)
          rwa [List.length_map, List.length_map] at this
        omega
    · rcases List.mem_append.mp hf with hf | hf
      · exact List.mem_append_left _ (h.mem f hf)
      · exact List.mem_append_right _ hf
theorem Red.at {w lo : Nat} {S : List Vc} (h : Red w S) (e : Ech w lo S) : ∀ f ∈ S, ∀ g ∈ S, f (pvt w g) = 0 ∨ g = f ∨ (0 ≤ f (pvt w g) ∧ f (pvt w g) < g (pvt w g)) := by
  induction h generalizing lo with
  | nil => intro f hf; exact absurd hf List.not_mem_nil
  | @cons k S a b c ih =>
    cases e with
    | cons e1 e2 e3 =>
    intro f hf g hg
    rcases List.mem_cons.mp hf with rfl | hf'
    · rcases List.mem_cons.mp hg with rfl | hg
      · exact .inr (.inl rfl)
      · exact .inr (.inr (b g hg))
    · rcases List.mem_cons.mp hg with rfl | hg
      · have := (e3.mem f (by assumption)).1
        exact .inl (pvt_zero (w := w) _ (by omega))
      · exact ih e3 f hf' g hg
/-- pivots and items of the reduced table of small rows -/
theorem Tb.bounds {w M : Nat} {R T I : List Vc} (t : Tb w R T) (r : Rep w R T I) (hb : ∀ f ∈ R, ∀ i, (f i).natAbs ≤ M) {n : Nat} (hn : T.length = n + 1) :
    (∀ g ∈ T, (g (pvt w g)).natAbs ≤ zB n M) ∧ ∀ f ∈ T, ∀ i, (f i).natAbs ≤ (n + 1) * (zB n M * zB n M) := by
  have hI : I.length = n + 1 := r.len.trans hn
  have sI : ∀ f ∈ I, Spn (Ls T) f := fun f hf => t.sup f (r.mem f hf)
  have bI : ∀ f ∈ I, ∀ i, (f i).natAbs ≤ M := fun f hf => hb f (r.mem f hf)
  have p := piv_le t.ech t.red.pos hI hn sI r.ind bI
  refine ⟨p, fun f hf => row_le t.ech t.red.pos hI hn sI r.ind bI (spn_mem hf) fun g hg => ?_⟩
  have pg := p g hg
  rcases t.red.at t.ech f hf g hg with z | z | z
  · rw [z]; exact Nat.zero_le _
  · rw [← z]; exact pg
  · omega
theorem zB_lt {n m : Nat} (hn : n ≤ 11) : zB n (2 ^ m) < 2 ^ (12 * m + 60) := by
  unfold zB
  have h1 : 2 * (n + 1) * 2 ^ m + 1 ≤ 2 ^ (m + 5) := by
    have : 2 ^ (m + 5) = 32 * 2 ^ m := by rw [Nat.pow_add, Nat.mul_comm]
    have p : 1 ≤ 2 ^ m := Nat.one_le_two_pow
    have : 2 * (n + 1) * 2 ^ m ≤ 24 * 2 ^ m := Nat.mul_le_mul_right _ (by omega)
    omega
  have h2 : (2 * (n + 1) * 2 ^ m + 1) ^ n ≤ 2 ^ (11 * (m + 5)) := by
    refine Nat.le_trans (Nat.pow_le_pow_left h1 n) ?_
    rw [← Nat.pow_mul]
    exact Nat.pow_le_pow_right (by decide) (by rw [Nat.mul_comm]; exact Nat.mul_le_mul_right _ hn)
  have h3 := Nat.mul_le_mul (show n + 1 ≤ 2 ^ 4 by omega) (Nat.mul_le_mul_right (2 ^ m) h2)
  rw [← Nat.pow_add, ← Nat.pow_add] at h3
  refine Nat.lt_of_le_of_lt h3 (Nat.pow_lt_pow_right (by decide) (by omega))
theorem zE_lt {n m : Nat} (hn : n ≤ 11) : (n + 1) * (zB n (2 ^ m) * zB n (2 ^ m)) < 2 ^ (24 * m + 124) := by
  have h := zB_lt (m := m) hn
  have h2 := Nat.mul_lt_mul'' h h
  have h3 := Nat.mul_le_mul (show n + 1 ≤ 2 ^ 4 by omega) (Nat.le_of_lt h2)
  rw [← Nat.pow_add, ← Nat.pow_add] at h3
  have h4 : 2 ^ 4 * 2 ^ (12 * m + 60 + (12 * m + 60)) = 2 ^ (24 * m + 124) := by rw [← Nat.pow_add]; congr 1; omega
  have h5 : (n + 1) * (zB n (2 ^ m) * zB n (2 ^ m)) < 2 ^ 4 * 2 ^ (12 * m + 60 + (12 * m + 60)) := by
    rw [Nat.pow_add]
    exact Nat.lt_of_lt_of_le (Nat.mul_lt_mul_of_pos_left h2 (by omega)) (Nat.mul_le_mul_right _ (by omega))
  omega

section
variable {P : Program} {w : World} {K : PySem.W.Frag} {mg : Str → Option Value} {base : Heap} {CM CR : Addr}
/-! ### rows as tuples -/
def sr (ns : List Int) : Vc := fun i => ns.getD i 0
def mk (N : Nat) (a : Vc) : List Int := (List.range N).map a
theorem mk_len {N : Nat} {a : Vc} : (mk N a).length = N := by unfold mk; rw [List.length_map, List.length_range]
theorem mk_get {N k : Nat} {a : Vc} (h : k < N) : (mk N a)[k]? = some (a k) := by
  unfold mk
  rw [List.getElem?_map, List.getElem?_range h]
  rfl
theorem mk_cong {N : Nat} {a b : Vc} (h : ∀ k, k < N → a k = b k) : mk N a = mk N b := List.map_congr_left fun k hk => h k (List.mem_range.mp hk)
theorem mk_inj {N : Nat} {a b : Vc} (h : mk N a = mk N b) (sa : Sup N a) (sb : Sup N b) : a = b := funext fun i => by
  rcases Nat.lt_or_ge i N with c | c
  · have h1 := mk_get (a := a) c
    rw [h, mk_get c] at h1
    exact (Option.some.inj h1).symm
  · rw [sa i c, sb i c]
theorem mk_sr (ns : List Int) : mk ns.length (sr ns) = ns := by
  refine List.ext_getElem? fun k => ?_
  rcases Nat.lt_or_ge k ns.length with h | h
  · rw [mk_get h]
    unfold sr
    rw [List.getD_eq_getElem?_getD, List.getElem?_eq_getElem h]
    rfl
  · rw [List.getElem?_eq_none (by rw [mk_len]; exact h), List.getElem?_eq_none h]
theorem sr_sup (ns : List Int) : Sup ns.length (sr ns) := fun i hi => by
  unfold sr
  rw [List.getD_eq_getElem?_getD, List.getElem?_eq_none hi]
  rfl
theorem ints_at {ns : List Int} {i : Nat} {x : V} (h : (ns.map V.int)[i]? = some x) : ∃ n, x = .int n ∧ ns[i]? = some n := by
  rw [List.getElem?_map] at h
  obtain ⟨n, hn, rfl⟩ := Option.map_eq_some_iff.mp h
  exact ⟨n, rfl, hn⟩
theorem mk_at {N i : Nat} {a : Vc} {x : V} (h : ((mk N a).map V.int)[i]? = some x) : i < N ∧ x = .int (a i) := by
  obtain ⟨n, rfl, hn⟩ := ints_at h
  have hi : i < N := by
    have := (List.getElem?_eq_some_iff.mp hn).1
    rwa [mk_len] at this
  rw [mk_get hi] at hn
  cases hn
  exact ⟨hi, rfl⟩
theorem fm_some {n : Nat} (f : Nat → V) : (List.range n).filterMap (fun i => some (f i)) = (List.range n).map f := congrFun List.filterMap_eq_map' _
theorem tup_end {H1 : Hp} {D' : Addr} {xs : List V} {Q : VK} (hD : H1 D' = some (.lst xs)) (k : ∀ r, H1 r = none → Q (.ref r) (upd H1 r (.tup xs))) :
    ∃ x, (SqL K H1 D' x ∧ ∀ (l : Addr), H1 l = none → Q (V.ref l) (upd H1 l (HO.tup x))) ∨ SqT K H1 D' x ∧ Q (V.ref D') H1 := ⟨_, .inl ⟨SqL.of hD, fun l nl => k l nl⟩⟩
theorem two_end {H1 : Hp} {T : Addr} {x y : V} {R : V → V → Prop} (hT : H1 T = some (.tup [x, y])) (k : R x y) :
    ∃ l, SqT K H1 T l ∧ l.length = 2 ∧ ∃ v r, l = v :: r ∧ ∃ v' r', r = v' :: r' ∧ r' = [] ∧ R v v' := ⟨_, SqT.of hT, rfl, _, _, rfl, _, _, rfl, rfl, k⟩
theorem mk_map (N : Nat) (a : Vc) : (mk N a).map V.int = (List.range N).map fun i => V.int (a i) := by
  unfold mk
  rw [List.map_map]
  rfl
/-- v is the row f -/
def Rw (H : Hp) (n : Nat) (v : V) (f : Vc) : Prop := ∃ p, v = .ref p ∧ H p = some (.tup ((mk n f).map V.int))
theorem Rw.same {H H' : Hp} {n : Nat} {v : V} {f : Vc} (h : Rw H n v f) (s : Same H H') : Rw H' n v f := by
  obtain ⟨p, e, hp⟩ := h
  exact ⟨p, e, s _ _ hp⟩
/-- vs are the rows fs -/
inductive Rws (H : Hp) (n : Nat) : List V → List Vc → Prop
  | nil : Rws H n [] []
  | cons {v f vs fs} : Rw H n v f → Rws H n vs fs → Rws H n (v :: vs) (f :: fs)
theorem Rws.same {H H' : Hp} {n : Nat} {vs : List V} {fs : List Vc} (h : Rws H n vs fs) (s : Same H H') : Rws H' n vs fs := by
  induction h with
  | nil => exact .nil
  | cons a _ ih => exact .cons (a.same s) ih
theorem Rws.len {H : Hp} {n : Nat} {vs : List V} {fs : List Vc} (h : Rws H n vs fs) : vs.length = fs.length := by
  induction h with
  | nil => rfl
  | cons a _ ih => rw [List.length_cons, List.length_cons, ih]
theorem Rws.get {H : Hp} {n i : Nat} {vs : List V} {fs : List Vc} {v : V} (h : Rws H n vs fs) (e : vs[i]? = some v) : ∃ f, fs[i]? = some f ∧ Rw H n v f := by
  induction h generalizing i with
  | nil => simp at e
  | @cons v f vs fs a _ ih =>
    match i, e with
    | 0, e => cases e; exact ⟨f, rfl, a⟩
    | i + 1, e => exact ih e
theorem Rws.app {H : Hp} {n : Nat} {vs us : List V} {fs gs : List Vc} (h : Rws H n vs fs) (h' : Rws H n us gs) : Rws H n (vs ++ us) (fs ++ gs) := by
  induction h with
  | nil => exact h'
  | cons a _ ih => exact .cons a ih
theorem Rws.drop {H : Hp} {n : Nat} {vs : List V} {fs : List Vc} (h : Rws H n vs fs) : ∀ i, Rws H n (vs.drop i) (fs.drop i) := by
  induction h with
  | nil => intro i; rw [List.drop_nil, List.drop_nil]; exact .nil
  | cons a b ih =>
    intro i
    match i with
    | 0 => exact .cons a b
    | i + 1 => exact ih i
theorem Rws.rev {H : Hp} {n : Nat} {vs : List V} {fs : List Vc} (h : Rws H n vs fs) : Rws H n vs.reverse fs.reverse := by
  induction h with
  | nil => exact .nil
  | cons a b ih =>
    rw [List.reverse_cons, List.reverse_cons]
    exact ih.app (.cons a .nil)
theorem drop_at {α : Type} {l : List α} {i : Nat} {x : α} (h : l[i]? = some x) : l.drop i = x :: l.drop (i + 1) := by
  obtain ⟨hi, e⟩ := List.getElem?_eq_some_iff.mp h
  rw [List.drop_eq_getElem_cons hi, e]
/-! ### sums and multiples of rows -/
abbrev s_add : Stmt := top 5
theorem sc_add : FnScope ["v", "w", "a", "b"] ["v", "w"] (defScope s_add) := ⟨rfl, rfl, rfl, by decide +kernel, rfl, by decide +kernel, by decide +kernel⟩

def spAdd : Sp := fun vs H Q _ => ∃ (p q : Addr) (n : Nat) (f g : Vc), vs = [.ref p, .ref q] ∧ H p = some (.tup ((mk n f).map V.int)) ∧ H q = some (.tup ((mk n g).map V.int)) ∧ n ≤ 100 ∧
  ∀ r H', Same H H' → H r = none → H' r = some (.tup ((mk n fun i => f i + g i).map V.int)) → Q (.ref r) H'
theorem cal_add (D : Dn K mg "add" s_add ["v", "w"]) (B : Bl mg) : Cal P w K mg base "add" 1 ["v", "w"] spAdd := by
  refine D.cal sc_add (fun vs H Q E h => by obtain ⟨p, q, n, xs, ys, rfl, _⟩ := h; rfl) (fun f cdv A outer s H vs Q E hr h => ?_)
  obtain ⟨p, q, n, f, g, rfl, hp, hq, hl, k⟩ := h
  refine ⟨_, (pss_one (ps_ret (pe_callTy cr_tupOf rfl B.tuple boot_tuple (pa_cons (pe_lc (own := [("a", 2), ("b", 3)]) rfl sc_add.nd (pi_zipM true true rfl B.zip (pa_cons (pv 0) (pa_cons (pv 1) pa_nil))) (blkOk_by (N := ["v", "w", "a", "b"]) (sc := defScope s_add) (own := [("a", 2), ("b", 3)]) (by decide +kernel)) (fun _ _ _ _ _ => (pg_tupK (K := K) (n := 2) rfl rfl (pgs_cons (pg_name (i := 2) sc_add.nd rfl (Or.inl rfl)) (pgs_cons (pg_name (i := 3) sc_add.nd rfl (Or.inl rfl)) pgs_nil)) rfl rfl)) (fun _ _ _ _ _ => pts_nil) (fun _ _ _ _ _ => (pe_op op_add (pv 2) (pv 3)))) pa_nil)))), ?_⟩
  walk_at "rd"
  refine ⟨_, SqT.of hp, _, SqT.of hq, LcZ.p (xs := (mk n f).map V.int) (ys := (mk n g).map V.int) (n := n) (by rw [List.length_map, List.length_map, mk_len, mk_len]; omega) (fun i => some (V.int (f i + g i))) (by omega) (fun H1 s1 => ⟨SqT.of (s1 _ _ hp), SqT.of (s1 _ _ hq)⟩) ?_ ?_⟩
  · intro i x x' hx hx' H1 T s1 hT M S hM hS
    obtain ⟨_, rfl⟩ := mk_at hx
    obtain ⟨_, rfl⟩ := mk_at hx'
    walk_at "rd"
    exact two_end hT ⟨_, rfl, _, rfl, hM _ _ rfl (Same.refl _)⟩
  · intro D' H1 nD s1 hD
    rw [fm_some (fun i => V.int (f i + g i))] at hD
    walk_at "rd"
    refine tup_end hD fun r nr => k r _ (s1.trans (same_upd nr)) (s1.free nr) ?_
    rw [upd_same, mk_map]
abbrev s_scaled : Stmt := top 6
theorem sc_scaled : FnScope ["v", "c", "a"] ["v", "c"] (defScope s_scaled) := ⟨rfl, rfl, rfl, by decide +kernel, rfl, by decide +kernel, by decide +kernel⟩

def spSc : Sp := fun vs H Q _ => ∃ (p : Addr) (n : Nat) (f : Vc) (c : Int), vs = [.ref p, .int c] ∧ H p = some (.tup ((mk n f).map V.int)) ∧ n ≤ 100 ∧ (∀ i, IntMulOk c (f i)) ∧
  ∀ r H', Same H H' → H r = none → H' r = some (.tup ((mk n fun i => c * f i).map V.int)) → Q (.ref r) H'
theorem cal_sc (D : Dn K mg "scaled" s_scaled ["v", "c"]) (B : Bl mg) : Cal P w K mg base "scaled" 1 ["v", "c"] spSc := by
  refine D.cal sc_scaled (fun vs H Q E h => by obtain ⟨p, n, xs, c, rfl, _⟩ := h; rfl) (fun f cdv A outer s H vs Q E hr h => ?_)
  obtain ⟨p, n, f, c, rfl, hp, h400, ok, k⟩ := h
  refine ⟨_, (pss_one (ps_ret (pe_callTy cr_tupOf rfl B.tuple boot_tuple (pa_cons (pe_lc (own := [("a", 2)]) rfl sc_scaled.nd (pi_tup (pv 0)) (blkOk_by (N := ["v", "c", "a"]) (sc := defScope s_scaled) (own := [("a", 2)]) (by decide +kernel)) (fun _ _ _ _ _ => (pg_name (i := 2) sc_scaled.nd rfl (Or.inl rfl))) (fun _ _ _ _ _ => pts_nil) (fun _ _ _ _ _ => (pe_op op_mulI (pv 1) (pv 2)))) pa_nil)))), ?_⟩
  walk_at "rd"
  refine ⟨⟨_, SqT.of hp⟩, LcT.p (xs := (mk n f).map V.int) (fun i => some (V.int (c * f i))) (by rw [List.length_map, mk_len]; omega) (fun H1 s1 => SqT.of (s1 _ _ hp)) ?_ ?_⟩
  · intro i x hx H1 s1 M S hM hS
    obtain ⟨_, rfl⟩ := mk_at hx
    walk_at "rd"
    exact ⟨ok i, hM _ _ rfl (Same.refl _)⟩
  · intro D' H1 nD s1 hD
    rw [List.length_map, mk_len, fm_some (fun i => V.int (c * f i))] at hD
    walk_at "rd"
    refine tup_end hD fun r nr => k r _ (s1.trans (same_upd nr)) (s1.free nr) ?_
    rw [upd_same, mk_map]
abbrev s__pivot : Stmt := top 10
theorem sc__pivot : FnScope ["row", "at", "item"] ["row"] (defScope s__pivot) := ⟨rfl, rfl, rfl, by decide +kernel, rfl, by decide +kernel, by decide +kernel⟩

def spPiv : Sp := fun vs H Q _ => ∃ (p : Addr) (n : Nat) (f : Vc), vs = [.ref p] ∧ H p = some (.tup ((mk n f).map V.int)) ∧ n ≤ 100 ∧ ∀ H', Same H H' → Q (.int ((pvt n f : Nat) : Int)) H'
theorem cal_piv (D : Dn K mg "_pivot" s__pivot ["row"]) (B : Bl mg) : Cal P w K mg base "_pivot" 1 ["row"] spPiv := by
  refine D.cal sc__pivot (fun vs H Q E h => by obtain ⟨p, n, f, rfl, _⟩ := h; rfl) (fun fa cdv A outer s H vs Q E hr h => ?_)
  obtain ⟨p, n, f, rfl, hp, hn, k⟩ := h
  refine ⟨_, (pss_cons (ps_for PassesOwn.never rfl (pi_enumT rfl B.enumerate (pa_cons (pv 0) pa_nil)) (pg_tup (n := 2) rfl (pgs_cons (pg_name (i := 1) sc__pivot.nd rfl (Or.inl rfl)) (pgs_cons (pg_name (i := 2) sc__pivot.nd rfl (Or.inl rfl)) pgs_nil))) (pss_one (ps_if (pt_truth (pv 2) (by intro _; rfl)) (pss_one (ps_ret (pv 1))) pss_nil)))
  (pss_one (ps_ret (pe_callB cr_lenS rfl B.len (by decide +kernel) (pa_cons (pv 0) pa_nil))))), ?_⟩
  rw [CB.rd_seq]
  walk_at "rs"
  refine ⟨_, SqT.of hp, ForE.w (xs := (mk n f).map V.int) (fun i σ H1 => ∃ x y, σ = [some (.ref p), x, y] ∧ Same H H1 ∧ ∀ j, j < i → f j = 0) ⟨_, _, rfl, Same.refl _, fun j hj => absurd hj (Nat.not_lt_zero j)⟩ ?_ ?_ ?_⟩
  · rintro i σ H1 _ ⟨x, y, rfl, s1, _⟩
    exact SqT.of (s1 _ _ hp)
  · rintro i v T σ H1 hv ⟨x, y, rfl, s1, h0⟩ nT N hN
    obtain ⟨hi, rfl⟩ := mk_at hv
    walk_at "rs"
    refine ⟨_, SqT.of upd_same, rfl, _, _, rfl, _, _, rfl, rfl, ?_⟩
    refine ⟨_, rfl, ?_⟩
    by_cases c : f i = 0
    · rw [c]
      rw [if_neg (by decide)]
      refine hN _ _ ⟨_, _, rfl, s1.trans (same_upd nT), fun j hj => ?_⟩
      rcases Nat.lt_or_ge j i with z | z
      · exact h0 j z
      · rw [show j = i by omega]; exact c
    · rw [if_pos (by simpa using c)]
      have := k _ (s1.trans (same_upd nT) : Same H (upd H1 T (.tup [.int (i : Nat), .int (f i)])))
      rw [pvt_eq hi h0 c] at this
      exact this
  · rintro σ H1 ⟨x, y, rfl, s1, h0⟩
    rw [List.length_map, mk_len] at h0
    walk_at "rs"
    refine ⟨_, .inr ⟨_, SqT.of (s1 _ _ hp), rfl⟩, ?_⟩
    rw [List.length_map, mk_len]
    have := k _ s1
    have e : pvt n f = n := Nat.le_antisymm pvt_le (pvt_ge (Nat.le_refl _) h0)
    rw [e] at this
    exact this
end

local macro_rules | `(tactic| walk_at "rd") => `(tactic| simp (maxSteps := 2000000) only [CB.rd_var, CB.rd_C, CB.rd_op, CB.rd_un, CB.rd_I, CB.rd_I0, CB.rd_U, CB.rd_Eq, CB.rd_Ne, CB.rd_test, CB.rd_B, CB.rd_and, CB.rd_or, CB.rd_not, CB.rd_andV, CB.rd_orV, CB.rd_notV, CB.rd_if, CB.rd_chain, CB.rd_chain3,
  CB.rd_next, CB.rd_seq, CB.rd_drop, CB.rd_ret, CB.rd_retN, CB.rd_break, CB.rd_cont, CB.rd_ifS, CB.rd_asg, CB.rd_name, CB.rd_gsub, CB.rd_gtup, CB.rd_gcons, CB.rd_gnil, CB.rd_par, CB.rd_aug, CB.rd_ipI, CB.rd_nil, CB.rd_cons, CB.rd_tup, CB.rd_lst, CB.rd_CB, CB.rd_call, CB.rd_callS, CB.rd_ixL, CB.rd_ixT, CB.rd_setL, CB.rd_putS, CB.rd_forZ, CB.rd_lcZ, CB.rd_forE, CB.rd_forEL, CB.rd_lcE, CB.rd_isqrt, CB.rd_sum, CB.rd_append, CB.rd_forL, CB.rd_forT, CB.rd_forR1, CB.rd_forR2, CB.rd_forR3, CB.rd_lcL, CB.rd_lcT, CB.rd_lcR1, CB.rd_lcR2, CB.rd_yes, CB.rd_sl, CB.rd_noPart, CB.rd_part, CB.rd_slL, CB.rd_wipe0, CB.rd_rep, CB.rd_tupOf, CB.rd_lenS, CB.rd_gcd, CB.rd_wipe1, CB.rd_sorted3, CB.rd_any, CB.rd_all, CB.rd_ext, CB.rd_glst, CB.rd_sortedM, CB.rd_minD, CB.rd_indexD, CB.rd_pop, CB.rd_dnew, CB.rd_dget, CB.rd_dget2, CB.rd_dput, CB.rd_dm, CB.rd_anyI, CB.rd_ixDC, CB.rd_inDC, CB.rd_cat, CB.rd_lcZR, CB.rd_revR1, CB.rd_max2, CB.rd_forRv, CB.rd_ins, CB.rd_revT, CB.rd_listOf, CB.rd_inI, CB.rd_idxI,
  L2.start, List.map_cons, List.map_nil, List.length_cons, List.length_nil, Nat.reduceAdd, Nat.reduceSub, List.replicate_succ, List.replicate_zero,
  V.int.injEq, V.ref.injEq, V.bl.injEq, V.str.injEq, Option.some.injEq, List.cons.injEq, exists_and_left, exists_eq_left', exists_eq_left, reduceCtorEq, false_and, and_false, or_false, false_or, exists_false, exists_const, and_assoc, true_and, and_true,
  CB.scal_int, CB.scal_str, CB.dec_ii, CB.ite_dec, CB.ite_ndec, List.getElem?_cons_zero, List.getElem?_cons_succ, List.set_cons_zero, List.set_cons_succ, List.append_nil, List.cons_append, List.nil_append, if_true, if_false, Bool.false_eq_true, Bool.not_true, Bool.not_false, CB.K_nox, CB.K_cxOf, eq_self])
local macro_rules | `(tactic| walk_at "rs") => `(tactic| simp (maxSteps := 2000000) only [CB.rd_var, CB.rd_C, CB.rd_op, CB.rd_un, CB.rd_I, CB.rd_I0, CB.rd_U, CB.rd_Eq, CB.rd_Ne, CB.rd_test, CB.rd_B, CB.rd_and, CB.rd_or, CB.rd_not, CB.rd_andV, CB.rd_orV, CB.rd_notV, CB.rd_if, CB.rd_chain, CB.rd_chain3,
  CB.rd_next, CB.rd_drop, CB.rd_ret, CB.rd_retN, CB.rd_break, CB.rd_cont, CB.rd_ifS, CB.rd_asg, CB.rd_name, CB.rd_gsub, CB.rd_gtup, CB.rd_gcons, CB.rd_gnil, CB.rd_par, CB.rd_aug, CB.rd_ipI, CB.rd_nil, CB.rd_cons, CB.rd_tup, CB.rd_lst, CB.rd_CB, CB.rd_call, CB.rd_callS, CB.rd_ixL, CB.rd_ixT, CB.rd_setL, CB.rd_putS, CB.rd_forZ, CB.rd_lcZ, CB.rd_forE, CB.rd_forEL, CB.rd_lcE, CB.rd_isqrt, CB.rd_sum, CB.rd_append, CB.rd_forL, CB.rd_forT, CB.rd_forR1, CB.rd_forR2, CB.rd_forR3, CB.rd_lcL, CB.rd_lcT, CB.rd_lcR1, CB.rd_lcR2, CB.rd_yes, CB.rd_sl, CB.rd_noPart, CB.rd_part, CB.rd_slL, CB.rd_wipe0, CB.rd_rep, CB.rd_tupOf, CB.rd_lenS, CB.rd_gcd, CB.rd_wipe1, CB.rd_sorted3, CB.rd_any, CB.rd_all, CB.rd_ext, CB.rd_glst, CB.rd_sortedM, CB.rd_minD, CB.rd_indexD, CB.rd_pop, CB.rd_dnew, CB.rd_dget, CB.rd_dget2, CB.rd_dput, CB.rd_dm, CB.rd_anyI, CB.rd_ixDC, CB.rd_inDC, CB.rd_cat, CB.rd_lcZR, CB.rd_revR1, CB.rd_max2, CB.rd_forRv, CB.rd_ins, CB.rd_revT, CB.rd_listOf, CB.rd_inI, CB.rd_idxI,
  L2.start, List.map_cons, List.map_nil, List.length_cons, List.length_nil, Nat.reduceAdd, Nat.reduceSub, List.replicate_succ, List.replicate_zero,
  V.int.injEq, V.ref.injEq, V.bl.injEq, V.str.injEq, Option.some.injEq, List.cons.injEq, exists_and_left, exists_eq_left', exists_eq_left, reduceCtorEq, false_and, and_false, or_false, false_or, exists_false, exists_const, and_assoc, true_and, and_true,
  CB.scal_int, CB.scal_str, CB.dec_ii, CB.ite_dec, CB.ite_ndec, List.getElem?_cons_zero, List.getElem?_cons_succ, List.set_cons_zero, List.set_cons_succ, List.append_nil, List.cons_append, List.nil_append, if_true, if_false, Bool.false_eq_true, Bool.not_true, Bool.not_false, CB.K_nox, CB.K_cxOf, eq_self])

local macro_rules | `(tactic| walk_at "nx") => `(tactic| (show tSeq _ _ _ _ _; rw [CB.rd_seq]; walk_at "rs"))


/-! ### sizes of rests -/
def Bd (n : Nat) (f : Vc) : Prop := ∀ i, Sz n (f i)
theorem Bd.le {m n : Nat} {f : Vc} (h : Bd m f) (l : m ≤ n) : Bd n f := fun i => (h i).le l
theorem sz_step {X E : Nat} {a t r : Int} (ha : Sz X a) (ht : Sz X t) (hr : Sz E r) : Sz (X + E) (a + t * r) := by
  unfold Sz at *
  have h1 := Int.natAbs_add_le a (t * r)
  rw [Int.natAbs_mul] at h1
  have h2 : t.natAbs * r.natAbs ≤ (2 ^ X - 1) * (2 ^ E - 1) := Nat.mul_le_mul (by omega) (by omega)
  have p1 : 1 ≤ 2 ^ X := Nat.one_le_two_pow
  have p2 : 1 ≤ 2 ^ E := Nat.one_le_two_pow
  have e : 2 ^ (X + E) = (2 ^ X - 1) * (2 ^ E - 1) + (2 ^ X - 1) + (2 ^ E - 1) + 1 := by
    rw [Nat.pow_add]
    obtain ⟨a, ea⟩ : ∃ a, 2 ^ X = a + 1 := ⟨2 ^ X - 1, by omega⟩
    obtain ⟨b, eb⟩ : ∃ b, 2 ^ E = b + 1 := ⟨2 ^ E - 1, by omega⟩
    rw [ea, eb]
    grind
  omega
theorem ediv_sz {X : Nat} {a d : Int} (ha : Sz X a) : Sz X (-(a / d)) := by
  unfold Sz at *
  have := Int.natAbs_ediv_le_natAbs a d
  omega
theorem rst_bd {n X E : Nat} : ∀ {S : List Vc} {x : Vc}, (∀ g ∈ S, Bd E g) → Bd X x → Bd (X + S.length * E) (rst n S x)
  | [], x, _, hx => by rw [List.length_nil, Nat.zero_mul]; exact hx
  | r :: S, x, hS, hx => by
    have h1 : Bd (X + E) fun i => x i + -(x (pvt n r) / r (pvt n r)) * r i := fun i => sz_step (hx i) (ediv_sz (hx _)) (hS r List.mem_cons_self i)
    have h2 := rst_bd (n := n) (S := S) (fun g hg => hS g (List.mem_cons_of_mem _ hg)) h1
    have e : X + E + S.length * E = X + (r :: S).length * E := by rw [List.length_cons, Nat.add_mul]; omega
    rw [← e]
    exact h2
section
variable {P : Program} {w : World} {K : PySem.W.Frag} {mg : Str → Option Value} {base : Heap} {CM CR : Addr}
theorem atI_mk {n i : Nat} {f : Vc} (h : i < n) : atI ((mk n f).map V.int) ((i : Nat) : Int) = some (.int (f i)) := by
  unfold atI ixN
  rw [if_pos (by omega)]
  rw [List.length_map, mk_len]
  rw [if_pos (show (i : Int) < (n : Int) by omega)]
  show ((mk n f).map V.int)[(i : Int).toNat]? = _
  rw [List.getElem?_map, Int.toNat_natCast, mk_get h]
  rfl
theorem sqT_same {H H' : Hp} {a : Addr} {xs : List V} (s : Same H H') (h : SqT K H a xs) : SqT K H' a xs := by
  rcases h with (h | ⟨o, h⟩) | h
  · exact .inl (.inl (s _ _ h))
  · exact .inl (.inr ⟨o, s _ _ h⟩)
  · exact .inr h
abbrev s_rest : Stmt := top 14
theorem sc_rest : FnScope ["space", "x", "row", "at", "times"] ["space", "x"] (defScope s_rest) := ⟨rfl, rfl, rfl, by decide +kernel, rfl, by decide +kernel, by decide +kernel⟩

def spRest (K : PySem.W.Frag) : Sp := fun vs H Q _ => ∃ (s : Addr) (v : V) (us : List V) (S : List Vc) (x : Vc) (n lo E X : Nat), vs = [.ref s, v] ∧ SqT K H s us ∧ Rws H n us S ∧ Rw H n v x ∧ n ≤ 100 ∧ Ech n lo S ∧ Pos n S ∧
  (∀ g ∈ S, Bd E g) ∧ (∀ g ∈ S, Sz 9000 (g (pvt n g))) ∧ Bd X x ∧ E ≤ 440000 ∧ X + S.length * E ≤ 440000 ∧ ∀ r H', Same H H' → Rw H' n r (rst n S x) → Q r H'
theorem cal_rest (D : Dn K mg "rest" s_rest ["space", "x"]) (B : Bl mg) (c__pivot : Cal P w K mg base "_pivot" 1 ["row"] spPiv) (c_add : Cal P w K mg base "add" 1 ["v", "w"] spAdd) (c_scaled : Cal P w K mg base "scaled" 1 ["v", "c"] spSc) : Cal P w K mg base "rest" 2 ["space", "x"] (spRest K) := by
  refine D.cal sc_rest (fun vs H Q E h => by obtain ⟨s, v, us, S, x, n, lo, E, X, rfl, _⟩ := h; rfl) (fun fa cdv A outer s H vs Q E hr h => ?_)
  obtain ⟨s, v, us, S, x, n, lo, E, X, rfl, hs, hS, hx, hn, hE, hP, bE, bP, bX, E4, X4, k⟩ := h
  refine ⟨_, (pss_cons (ps_for PassesOwn.never rfl (pi_tup (pv 0)) (pg_name (i := 2) sc_rest.nd rfl (Or.inl rfl)) (pss_cons (ps_set (i := 3) sc_rest.nd rfl (Or.inl rfl) (pe_cal c__pivot (hr.mono (by decide)) rfl (pa_cons (pv 2) pa_nil)))
  (pss_cons (ps_set (i := 4) sc_rest.nd rfl (Or.inl rfl) (pe_op op_fdivW (pe_ix ix_tup (pv 1) (pv 3) (fun _ _ => rfl)) (pe_ix ix_tup (pv 2) (pv 3) (fun _ _ => rfl))))
  (pss_one (ps_if (pt_truth (pv 4) (by intro _; rfl)) (pss_one (ps_set (i := 1) sc_rest.nd rfl (Or.inl rfl) (pe_cal c_add (hr.mono (by decide)) rfl (pa_cons (pv 1) (pa_cons (pe_cal c_scaled (hr.mono (by decide)) rfl (pa_cons (pv 2) (pa_cons (pe_un un_neg (pv 4)) pa_nil))) pa_nil))))) pss_nil)))))
  (pss_one (ps_ret (pv 1)))), ?_⟩
  rw [CB.rd_seq]
  walk_at "rs"
  have lS := hS.len
  refine ⟨⟨_, hs⟩, ForT.w (xs := us) (fun i σ H1 => ∃ v' y a b c, σ = [some (.ref s), some v', a, b, c] ∧ Same H H1 ∧ Rw H1 n v' y ∧ rst n (S.drop i) y = rst n S x ∧ Bd (X + i * E) y) ⟨v, x, _, _, _, rfl, Same.refl _, hx, rfl, by rw [Nat.zero_mul]; exact bX⟩ ?_ ?_ ?_⟩
  · rintro i σ H1 _ ⟨v', y, a, b, c, rfl, s1, _⟩
    exact sqT_same s1 hs
  · rintro i u σ H1 hu ⟨v', y, a, b, c, rfl, s1, hy, ey, by'⟩ N hN
    obtain ⟨g, hg, hgr⟩ := (hS.same s1).get hu
    have hi : i < S.length := (List.getElem?_eq_some_iff.mp hg).1
    have gS : g ∈ S := List.mem_of_getElem? hg
    have gw := (hE.mem g gS).2
    have gp := hP g gS
    obtain ⟨pg, rfl, hpg⟩ := hgr
    obtain ⟨py, rfl, hpy⟩ := hy
    have Xi : X + i * E + E ≤ 440000 := by
      have : (i + 1) * E ≤ S.length * E := Nat.mul_le_mul_right _ hi
      rw [Nat.add_mul] at this
      omega
    rw [drop_at hg] at ey
    walk_at "nx"
    refine ⟨pg, n, g, rfl, hpg, hn, fun H2 s2 => ?_⟩
    replace hpg := s2 _ _ hpg
    replace hpy := s2 _ _ hpy
    walk_at "nx"
    refine ⟨_, SqT.of hpy, _, atI_mk gw, _, SqT.of hpg, _, atI_mk gw, _, rfl, _, rfl, ⟨gp, ?_⟩, ?_⟩
    · have := log_lt (k := 8999) (bP g gS)
      omega
    try walk_at "rs"
    have q0 : ∀ H3 pz, Same H2 H3 → H3 pz = some (.tup ((mk n fun j => y j + -(y (pvt n g) / g (pvt n g)) * g j).map V.int)) → N [some (.ref s), some (.ref pz), some (.ref pg), some (.int ((pvt n g : Nat) : Int)), some (.int (y (pvt n g) / g (pvt n g)))] H3 := fun H3 pz s3 hz =>
      hN _ _ ⟨_, _, _, _, _, rfl, s1.trans (s2.trans s3), ⟨pz, rfl, hz⟩, ey, by
        have : X + (i + 1) * E = X + i * E + E := by rw [Nat.add_mul]; omega
        rw [this]
        exact fun j => sz_step (by' j) (ediv_sz (by' _)) (bE g gS j)⟩
    refine ⟨_, rfl, ?_⟩
    by_cases c0 : y (pvt n g) / g (pvt n g) = 0
    · rw [c0] at q0 ⊢
      rw [if_neg (by decide)]
      refine q0 H2 py (Same.refl _) ?_
      rw [hpy]
      congr 4
      funext j
      omega
    · rw [if_pos (by simpa using c0)]
      refine ⟨pg, n, g, _, rfl, hpg, hn, fun j => (ediv_sz (by' _)).ok (bE g gS j) (by omega) (by omega), fun r1 H3 s3 n3 h3 => ?_⟩
      exact ⟨py, r1, n, y, _, rfl, s3 _ _ hpy, h3, hn, fun r2 H4 s4 n4 h4 => q0 H4 r2 (s3.trans s4) h4⟩
  · rintro σ H1 ⟨v', y, a, b, c, rfl, s1, hy, ey, _⟩
    walk_at "rs"
    rw [lS, List.drop_length] at ey
    refine k _ _ s1 ?_
    rw [← ey]
    exact hy
end

local macro_rules | `(tactic| walk_at "rd") => `(tactic| simp (maxSteps := 2000000) only [CB.rd_var, CB.rd_C, CB.rd_op, CB.rd_un, CB.rd_I, CB.rd_I0, CB.rd_U, CB.rd_Eq, CB.rd_Ne, CB.rd_test, CB.rd_B, CB.rd_and, CB.rd_or, CB.rd_not, CB.rd_andV, CB.rd_orV, CB.rd_notV, CB.rd_if, CB.rd_chain, CB.rd_chain3,
  CB.rd_next, CB.rd_seq, CB.rd_drop, CB.rd_ret, CB.rd_retN, CB.rd_break, CB.rd_cont, CB.rd_ifS, CB.rd_asg, CB.rd_name, CB.rd_gsub, CB.rd_gtup, CB.rd_gcons, CB.rd_gnil, CB.rd_par, CB.rd_aug, CB.rd_ipI, CB.rd_nil, CB.rd_cons, CB.rd_tup, CB.rd_lst, CB.rd_CB, CB.rd_call, CB.rd_callS, CB.rd_ixL, CB.rd_ixT, CB.rd_setL, CB.rd_putS, CB.rd_forZ, CB.rd_lcZ, CB.rd_forE, CB.rd_forEL, CB.rd_lcE, CB.rd_isqrt, CB.rd_sum, CB.rd_append, CB.rd_forL, CB.rd_forT, CB.rd_forR1, CB.rd_forR2, CB.rd_forR3, CB.rd_lcL, CB.rd_lcT, CB.rd_lcR1, CB.rd_lcR2, CB.rd_yes, CB.rd_sl, CB.rd_noPart, CB.rd_part, CB.rd_slL, CB.rd_wipe0, CB.rd_rep, CB.rd_tupOf, CB.rd_lenS, CB.rd_gcd, CB.rd_wipe1, CB.rd_sorted3, CB.rd_any, CB.rd_all, CB.rd_ext, CB.rd_glst, CB.rd_sortedM, CB.rd_minD, CB.rd_indexD, CB.rd_pop, CB.rd_dnew, CB.rd_dget, CB.rd_dget2, CB.rd_dput, CB.rd_dm, CB.rd_anyI, CB.rd_ixDC, CB.rd_inDC, CB.rd_cat, CB.rd_lcZR, CB.rd_revR1, CB.rd_max2, CB.rd_forRv, CB.rd_ins, CB.rd_revT, CB.rd_listOf, CB.rd_inI, CB.rd_idxI,
  L2.start, List.map_cons, List.map_nil, List.length_cons, List.length_nil, Nat.reduceAdd, Nat.reduceSub, List.replicate_succ, List.replicate_zero,
  V.int.injEq, V.ref.injEq, V.bl.injEq, V.str.injEq, Option.some.injEq, List.cons.injEq, exists_and_left, exists_eq_left', exists_eq_left, reduceCtorEq, false_and, and_false, or_false, false_or, exists_false, exists_const, and_assoc, true_and, and_true,
  CB.scal_int, CB.scal_str, CB.dec_ii, CB.ite_dec, CB.ite_ndec, List.getElem?_cons_zero, List.getElem?_cons_succ, List.set_cons_zero, List.set_cons_succ, List.append_nil, List.cons_append, List.nil_append, if_true, if_false, Bool.false_eq_true, Bool.not_true, Bool.not_false, CB.K_nox, CB.K_cxOf, eq_self])
local macro_rules | `(tactic| walk_at "rs") => `(tactic| simp (maxSteps := 2000000) only [CB.rd_var, CB.rd_C, CB.rd_op, CB.rd_un, CB.rd_I, CB.rd_I0, CB.rd_U, CB.rd_Eq, CB.rd_Ne, CB.rd_test, CB.rd_B, CB.rd_and, CB.rd_or, CB.rd_not, CB.rd_andV, CB.rd_orV, CB.rd_notV, CB.rd_if, CB.rd_chain, CB.rd_chain3,
  CB.rd_next, CB.rd_drop, CB.rd_ret, CB.rd_retN, CB.rd_break, CB.rd_cont, CB.rd_ifS, CB.rd_asg, CB.rd_name, CB.rd_gsub, CB.rd_gtup, CB.rd_gcons, CB.rd_gnil, CB.rd_par, CB.rd_aug, CB.rd_ipI, CB.rd_nil, CB.rd_cons, CB.rd_tup, CB.rd_lst, CB.rd_CB, CB.rd_call, CB.rd_callS, CB.rd_ixL, CB.rd_ixT, CB.rd_setL, CB.rd_putS, CB.rd_forZ, CB.rd_lcZ, CB.rd_forE, CB.rd_forEL, CB.rd_lcE, CB.rd_isqrt, CB.rd_sum, CB.rd_append, CB.rd_forL, CB.rd_forT, CB.rd_forR1, CB.rd_forR2, CB.rd_forR3, CB.rd_lcL, CB.rd_lcT, CB.rd_lcR1, CB.rd_lcR2, CB.rd_yes, CB.rd_sl, CB.rd_noPart, CB.rd_part, CB.rd_slL, CB.rd_wipe0, CB.rd_rep, CB.rd_tupOf, CB.rd_lenS, CB.rd_gcd, CB.rd_wipe1, CB.rd_sorted3, CB.rd_any, CB.rd_all, CB.rd_ext, CB.rd_glst, CB.rd_sortedM, CB.rd_minD, CB.rd_indexD, CB.rd_pop, CB.rd_dnew, CB.rd_dget, CB.rd_dget2, CB.rd_dput, CB.rd_dm, CB.rd_anyI, CB.rd_ixDC, CB.rd_inDC, CB.rd_cat, CB.rd_lcZR, CB.rd_revR1, CB.rd_max2, CB.rd_forRv, CB.rd_ins, CB.rd_revT, CB.rd_listOf, CB.rd_inI, CB.rd_idxI,
  L2.start, List.map_cons, List.map_nil, List.length_cons, List.length_nil, Nat.reduceAdd, Nat.reduceSub, List.replicate_succ, List.replicate_zero,
  V.int.injEq, V.ref.injEq, V.bl.injEq, V.str.injEq, Option.some.injEq, List.cons.injEq, exists_and_left, exists_eq_left', exists_eq_left, reduceCtorEq, false_and, and_false, or_false, false_or, exists_false, exists_const, and_assoc, true_and, and_true,
  CB.scal_int, CB.scal_str, CB.dec_ii, CB.ite_dec, CB.ite_ndec, List.getElem?_cons_zero, List.getElem?_cons_succ, List.set_cons_zero, List.set_cons_succ, List.append_nil, List.cons_append, List.nil_append, if_true, if_false, Bool.false_eq_true, Bool.not_true, Bool.not_false, CB.K_nox, CB.K_cxOf, eq_self])

local macro_rules | `(tactic| walk_at "nx") => `(tactic| (show tSeq _ _ _ _ _; rw [CB.rd_seq]; walk_at "rs"))


section
variable {P : Program} {w : World} {K : PySem.W.Frag} {mg : Str → Option Value} {base : Heap} {CM CR : Addr}
theorem sz_div {D : Nat} {a g b : Int} (h : Sz D a) (e : b * g = a) (hg : 0 < g) : Sz D b := by
  unfold Sz at *
  have h1 := Int.natAbs_mul b g
  rw [e] at h1
  have : b.natAbs * 1 ≤ b.natAbs * g.natAbs := Nat.mul_le_mul_left _ (by omega)
  omega
abbrev s__merged : Stmt := top 12
theorem sc__merged : FnScope ["one", "two", "at", "g", "u", "v", "upper", "lower"] ["one", "two", "at"] (defScope s__merged) := ⟨rfl, rfl, rfl, by decide +kernel, rfl, by decide +kernel, by decide +kernel⟩

def spMe (D : Nat) : Sp := fun vs H Q _ => ∃ (v1 v2 : V) (f x : Vc) (n X : Nat), vs = [v1, v2, .int ((pvt n f : Nat) : Int)] ∧ Rw H n v1 f ∧ Rw H n v2 x ∧ n ≤ 100 ∧ pvt n f < n ∧ pvt n x = pvt n f ∧ 0 < f (pvt n f) ∧ 0 < x (pvt n f) ∧ Sz D (f (pvt n f)) ∧ Sz D (x (pvt n f)) ∧
  Bd X f ∧ Bd X x ∧ X ≤ 440000 ∧ ∀ (r r1 r2 : Addr) (H' : Hp) (g u v a b : Int), Same H H' → H' r = some (.tup [.ref r1, .ref r2]) → 0 < g → a * g = f (pvt n f) → b * g = x (pvt n f) → u * f (pvt n f) + v * x (pvt n f) = g →
    Rw H' n (.ref r1) (fun i => u * f i + v * x i) → Rw H' n (.ref r2) (fun i => a * x i + -b * f i) → Bd (D + X + 2) (fun i => u * f i + v * x i) → Bd (D + X + 2) (fun i => a * x i + -b * f i) → Q (.ref r) H'
theorem cal_me (D : Dn K mg "_merged" s__merged ["one", "two", "at"]) (B : Bl mg) (c_combination : Cal P w K mg base "combination" 1 ["a", "b"] (spComb nn)) (c_add : Cal P w K mg base "add" 1 ["v", "w"] spAdd) (c_scaled : Cal P w K mg base "scaled" 1 ["v", "c"] spSc) : Cal P w K mg base "_merged" 2 ["one", "two", "at"] (spMe nn) := by
  have N0 : nn ≤ 2600 := by decide
  generalize nn = N at *
  refine D.cal sc__merged (fun vs H Q E h => by obtain ⟨v1, v2, f, x, n, X, rfl, _⟩ := h; rfl) (fun fa cdv A outer s H vs Q E hr h => ?_)
  obtain ⟨v1, v2, f, x, n, X, rfl, ⟨p1, rfl, h1⟩, ⟨p2, rfl, h2⟩, hn, hw, ex, f0, x0, zf, zx, bf, bx, X4, k⟩ := h
  refine ⟨_, (pss_cons (ps_asg (pe_cal c_combination (hr.mono (by decide)) rfl (pa_cons (pe_ix ix_tup (pv 0) (pv 2) (fun _ _ => rfl)) (pa_cons (pe_ix ix_tup (pv 1) (pv 2) (fun _ _ => rfl)) pa_nil))) (pg_tup rfl (pgs_cons (pg_name (i := 3) sc__merged.nd rfl (Or.inl rfl)) (pgs_cons (pg_name (i := 4) sc__merged.nd rfl (Or.inl rfl)) (pgs_cons (pg_name (i := 5) sc__merged.nd rfl (Or.inl rfl)) pgs_nil)))))
  (pss_cons (ps_set (i := 6) sc__merged.nd rfl (Or.inl rfl) (pe_cal c_add (hr.mono (by decide)) rfl (pa_cons (pe_cal c_scaled (hr.mono (by decide)) rfl (pa_cons (pv 0) (pa_cons (pv 4) pa_nil))) (pa_cons (pe_cal c_scaled (hr.mono (by decide)) rfl (pa_cons (pv 1) (pa_cons (pv 5) pa_nil))) pa_nil))))
  (pss_cons (ps_set (i := 7) sc__merged.nd rfl (Or.inl rfl) (pe_cal c_add (hr.mono (by decide)) rfl (pa_cons (pe_cal c_scaled (hr.mono (by decide)) rfl (pa_cons (pv 1) (pa_cons (pe_op op_fdivW (pe_ix ix_tup (pv 0) (pv 2) (fun _ _ => rfl)) (pv 3)) pa_nil))) (pa_cons (pe_cal c_scaled (hr.mono (by decide)) rfl (pa_cons (pv 0) (pa_cons (pe_un un_neg (pe_op op_fdivW (pe_ix ix_tup (pv 1) (pv 2) (fun _ _ => rfl)) (pv 3))) pa_nil))) pa_nil))))
  (pss_one (ps_ret (pe_tup (pa_cons (pv 6) (pa_cons (pv 7) pa_nil)))))))), ?_⟩
  rw [CB.rd_seq]
  walk_at "rs"
  refine ⟨_, SqT.of h1, _, atI_mk hw, _, SqT.of h2, _, atI_mk hw, _, _, rfl, f0, x0, zf, zx, fun r u v H1 s1 n1 hr1 e zu zv => ?_⟩
  generalize hg : ((Nat.gcd (f (pvt n f)).natAbs (x (pvt n f)).natAbs : Nat) : Int) = g at *
  have g0 : 0 < g := by
    rw [← hg]
    have := Nat.gcd_pos_of_pos_left (x (pvt n f)).natAbs (show 0 < (f (pvt n f)).natAbs by omega)
    omega
  have d1 : g ∣ f (pvt n f) := by rw [← hg]; exact Int.gcd_dvd_left ..
  have d2 : g ∣ x (pvt n f) := by rw [← hg]; exact Int.gcd_dvd_right ..
  have a1 := Int.ediv_mul_cancel d1
  have a2 := Int.ediv_mul_cancel d2
  refine ⟨r, rfl, _, SqT.of hr1, rfl, _, _, rfl, _, _, rfl, _, _, rfl, rfl, ?_⟩
  replace h1 := s1 _ _ h1
  replace h2 := s1 _ _ h2
  have gz : g.natAbs.log2 < 9000 := by
    have : Sz 9000 g := natS (y := f (pvt n f)) (Nat.le_of_dvd (by omega) (Int.natAbs_dvd_natAbs.mpr d1)) (zf.le (by omega))
    have := log_lt (k := 8999) this
    omega
  walk_at "nx"
  refine ⟨p1, n, f, u, rfl, h1, hn, fun i => zu.ok (bf i) (by omega) (by omega), fun r3 H2 s2 n2 hr3 => ?_⟩
  replace h1 := s2 _ _ h1
  replace h2 := s2 _ _ h2
  refine ⟨p2, n, x, v, rfl, h2, hn, fun i => zv.ok (bx i) (by omega) (by omega), fun r4 H3 s3 n3 hr4 => ?_⟩
  replace h1 := s3 _ _ h1
  replace h2 := s3 _ _ h2
  replace hr3 := s3 _ _ hr3
  refine ⟨r3, r4, n, _, _, rfl, hr3, hr4, hn, fun r5 H4 s4 n4 hr5 => ?_⟩
  replace h1 := s4 _ _ h1
  replace h2 := s4 _ _ h2
  walk_at "nx"
  have za : Sz N (f (pvt n f) / g) := sz_div zf a1 g0
  have zb : Sz N (x (pvt n f) / g) := sz_div zx a2 g0
  refine ⟨_, SqT.of h1, _, atI_mk hw, _, rfl, ⟨g0, gz⟩, p2, n, x, _, rfl, h2, hn, fun i => za.ok (bx i) (by omega) (by omega), fun r6 H5 s5 n5 hr6 => ?_⟩
  replace h1 := s5 _ _ h1
  replace h2 := s5 _ _ h2
  replace hr5 := s5 _ _ hr5
  refine ⟨_, SqT.of h2, _, atI_mk hw, _, rfl, ⟨g0, gz⟩, p1, n, f, _, rfl, h1, hn, fun i => zb.neg.ok (bf i) (by omega) (by omega), fun r7 H6 s6 n6 hr7 => ?_⟩
  replace hr5 := s6 _ _ hr5
  replace hr6 := s6 _ _ hr6
  refine ⟨r6, r7, n, _, _, rfl, hr6, hr7, hn, fun r8 H7 s7 n7 hr8 => ?_⟩
  replace hr5 := s7 _ _ hr5
  walk_at "rs"
  have sall : Same H H7 := s1.trans (s2.trans (s3.trans (s4.trans (s5.trans (s6.trans s7)))))
  refine ⟨by decide, fun p np => k p r5 r8 _ g u v _ _ (sall.trans (same_upd np)) upd_same g0 a1 a2 e ⟨_, rfl, same_upd np _ _ hr5⟩ ⟨_, rfl, same_upd np _ _ hr8⟩ (fun i => ?_) (fun i => ?_)⟩
  · have t1 : Sz (N + X + 1) (u * f i) := (zu.mul (bf i)).le (by omega)
    have t2 : Sz (N + X + 1) (v * x i) := (zv.mul (bx i)).le (by omega)
    exact t1.add t2
  · have t1 : Sz (N + X) (f (pvt n f) / g * x i) := za.mul (bx i)
    have t2 : Sz (N + X) (-(x (pvt n f) / g) * f i) := zb.neg.mul (bf i)
    exact (t1.add t2).le (by omega)
end

local macro_rules | `(tactic| walk_at "rd") => `(tactic| simp (maxSteps := 2000000) only [CB.rd_var, CB.rd_C, CB.rd_op, CB.rd_un, CB.rd_I, CB.rd_I0, CB.rd_U, CB.rd_Eq, CB.rd_Ne, CB.rd_test, CB.rd_B, CB.rd_and, CB.rd_or, CB.rd_not, CB.rd_andV, CB.rd_orV, CB.rd_notV, CB.rd_if, CB.rd_chain, CB.rd_chain3,
  CB.rd_next, CB.rd_seq, CB.rd_drop, CB.rd_ret, CB.rd_retN, CB.rd_break, CB.rd_cont, CB.rd_ifS, CB.rd_asg, CB.rd_name, CB.rd_gsub, CB.rd_gtup, CB.rd_gcons, CB.rd_gnil, CB.rd_par, CB.rd_aug, CB.rd_ipI, CB.rd_nil, CB.rd_cons, CB.rd_tup, CB.rd_lst, CB.rd_CB, CB.rd_call, CB.rd_callS, CB.rd_ixL, CB.rd_ixT, CB.rd_setL, CB.rd_putS, CB.rd_forZ, CB.rd_lcZ, CB.rd_forE, CB.rd_forEL, CB.rd_lcE, CB.rd_isqrt, CB.rd_sum, CB.rd_append, CB.rd_forL, CB.rd_forT, CB.rd_forR1, CB.rd_forR2, CB.rd_forR3, CB.rd_lcL, CB.rd_lcT, CB.rd_lcR1, CB.rd_lcR2, CB.rd_yes, CB.rd_sl, CB.rd_noPart, CB.rd_part, CB.rd_slL, CB.rd_wipe0, CB.rd_rep, CB.rd_tupOf, CB.rd_lenS, CB.rd_gcd, CB.rd_wipe1, CB.rd_sorted3, CB.rd_any, CB.rd_all, CB.rd_ext, CB.rd_glst, CB.rd_sortedM, CB.rd_minD, CB.rd_indexD, CB.rd_pop, CB.rd_dnew, CB.rd_dget, CB.rd_dget2, CB.rd_dput, CB.rd_dm, CB.rd_anyI, CB.rd_ixDC, CB.rd_inDC, CB.rd_cat, CB.rd_lcZR, CB.rd_revR1, CB.rd_max2, CB.rd_forRv, CB.rd_ins, CB.rd_revT, CB.rd_listOf, CB.rd_inI, CB.rd_idxI,
  L2.start, List.map_cons, List.map_nil, List.length_cons, List.length_nil, Nat.reduceAdd, Nat.reduceSub, List.replicate_succ, List.replicate_zero,
  V.int.injEq, V.ref.injEq, V.bl.injEq, V.str.injEq, Option.some.injEq, List.cons.injEq, exists_and_left, exists_eq_left', exists_eq_left, reduceCtorEq, false_and, and_false, or_false, false_or, exists_false, exists_const, and_assoc, true_and, and_true,
  CB.scal_int, CB.scal_str, CB.dec_ii, CB.ite_dec, CB.ite_ndec, List.getElem?_cons_zero, List.getElem?_cons_succ, List.set_cons_zero, List.set_cons_succ, List.append_nil, List.cons_append, List.nil_append, if_true, if_false, Bool.false_eq_true, Bool.not_true, Bool.not_false, CB.K_nox, CB.K_cxOf, eq_self])
local macro_rules | `(tactic| walk_at "rs") => `(tactic| simp (maxSteps := 2000000) only [CB.rd_var, CB.rd_C, CB.rd_op, CB.rd_un, CB.rd_I, CB.rd_I0, CB.rd_U, CB.rd_Eq, CB.rd_Ne, CB.rd_test, CB.rd_B, CB.rd_and, CB.rd_or, CB.rd_not, CB.rd_andV, CB.rd_orV, CB.rd_notV, CB.rd_if, CB.rd_chain, CB.rd_chain3,
  CB.rd_next, CB.rd_drop, CB.rd_ret, CB.rd_retN, CB.rd_break, CB.rd_cont, CB.rd_ifS, CB.rd_asg, CB.rd_name, CB.rd_gsub, CB.rd_gtup, CB.rd_gcons, CB.rd_gnil, CB.rd_par, CB.rd_aug, CB.rd_ipI, CB.rd_nil, CB.rd_cons, CB.rd_tup, CB.rd_lst, CB.rd_CB, CB.rd_call, CB.rd_callS, CB.rd_ixL, CB.rd_ixT, CB.rd_setL, CB.rd_putS, CB.rd_forZ, CB.rd_lcZ, CB.rd_forE, CB.rd_forEL, CB.rd_lcE, CB.rd_isqrt, CB.rd_sum, CB.rd_append, CB.rd_forL, CB.rd_forT, CB.rd_forR1, CB.rd_forR2, CB.rd_forR3, CB.rd_lcL, CB.rd_lcT, CB.rd_lcR1, CB.rd_lcR2, CB.rd_yes, CB.rd_sl, CB.rd_noPart, CB.rd_part, CB.rd_slL, CB.rd_wipe0, CB.rd_rep, CB.rd_tupOf, CB.rd_lenS, CB.rd_gcd, CB.rd_wipe1, CB.rd_sorted3, CB.rd_any, CB.rd_all, CB.rd_ext, CB.rd_glst, CB.rd_sortedM, CB.rd_minD, CB.rd_indexD, CB.rd_pop, CB.rd_dnew, CB.rd_dget, CB.rd_dget2, CB.rd_dput, CB.rd_dm, CB.rd_anyI, CB.rd_ixDC, CB.rd_inDC, CB.rd_cat, CB.rd_lcZR, CB.rd_revR1, CB.rd_max2, CB.rd_forRv, CB.rd_ins, CB.rd_revT, CB.rd_listOf, CB.rd_inI, CB.rd_idxI,
  L2.start, List.map_cons, List.map_nil, List.length_cons, List.length_nil, Nat.reduceAdd, Nat.reduceSub, List.replicate_succ, List.replicate_zero,
  V.int.injEq, V.ref.injEq, V.bl.injEq, V.str.injEq, Option.some.injEq, List.cons.injEq, exists_and_left, exists_eq_left', exists_eq_left, reduceCtorEq, false_and, and_false, or_false, false_or, exists_false, exists_const, and_assoc, true_and, and_true,
  CB.scal_int, CB.scal_str, CB.dec_ii, CB.ite_dec, CB.ite_ndec, List.getElem?_cons_zero, List.getElem?_cons_succ, List.set_cons_zero, List.set_cons_succ, List.append_nil, List.cons_append, List.nil_append, if_true, if_false, Bool.false_eq_true, Bool.not_true, Bool.not_false, CB.K_nox, CB.K_cxOf, eq_self])

local macro_rules | `(tactic| walk_at "nx") => `(tactic| (show tSeq _ _ _ _ _; rw [CB.rd_seq]; walk_at "rs"))


section
variable {P : Program} {w : World} {K : PySem.W.Frag} {mg : Str → Option Value} {base : Heap} {CM CR : Addr}
theorem tidy_drop {n : Nat} : ∀ (R : List Vc) (k : Nat), tidy n (R.drop k) = (tidy n R).drop k
  | [], k => by rw [List.drop_nil]; exact List.drop_nil.symm
  | r :: R, 0 => rfl
  | r :: R, k + 1 => tidy_drop R k
theorem sgn_bd {n X : Nat} {f : Vc} (h : Bd X f) : Bd X (sgn n f) := fun i => by
  unfold sgn
  split
  · show Sz X (-1 * f i)
    have := h i
    unfold Sz at *
    omega
  · exact h i
theorem Ech.drop {n lo : Nat} {R : List Vc} (h : Ech n lo R) : ∀ k, ∃ lo', Ech n lo' (R.drop k) := by
  induction h with
  | nil => intro k; rw [List.drop_nil]; exact ⟨0, .nil⟩
  | @cons lo f S a b c ih =>
    intro k
    match k with
    | 0 => exact ⟨lo, .cons a b c⟩
    | k + 1 => exact ih k
abbrev s__tidied : Stmt := top 13
theorem sc__tidied : FnScope ["rows", "space", "row"] ["rows"] (defScope s__tidied) := ⟨rfl, rfl, rfl, by decide +kernel, rfl, by decide +kernel, by decide +kernel⟩

def spTi : Sp := fun vs H Q _ => ∃ (l : Addr) (us : List V) (R : List Vc) (n lo E X : Nat), vs = [.ref l] ∧ H l = some (.lst us) ∧ Rws H n us R ∧ n ≤ 100 ∧ Ech n lo R ∧ (∀ g ∈ tidy n R, Bd E g) ∧ (∀ g ∈ tidy n R, Sz 9000 (g (pvt n g))) ∧ (∀ g ∈ R, Bd X g) ∧
  X + R.length * E ≤ 440000 ∧ E ≤ 440000 ∧ ∀ (r : Addr) (zs : List V) (H' : Hp), Same H H' → H' r = some (.tup zs) → Rws H' n zs (tidy n R) → Q (.ref r) H'
theorem cal_ti (D : Dn K mg "_tidied" s__tidied ["rows"]) (B : Bl mg) (c__pivot : Cal P w K mg base "_pivot" 1 ["row"] spPiv) (c_scaled : Cal P w K mg base "scaled" 1 ["v", "c"] spSc) (c_rest : Cal P w K mg base "rest" 2 ["space", "x"] (spRest K)) : Cal P w K mg base "_tidied" 3 ["rows"] spTi := by
  refine D.cal sc__tidied (fun vs H Q E h => by obtain ⟨l, us, R, n, lo, E, X, rfl, _⟩ := h; rfl) (fun fa cdv A outer s H vs Q E hr h => ?_)
  obtain ⟨l, us, R, n, lo, E, X, rfl, hl, hR, hn, hE, bE, bP, bX, X4, E4, k⟩ := h
  refine ⟨_, (pss_cons (ps_set (i := 1) sc__tidied.nd rfl (Or.inl rfl) (pe_tup pa_nil))
  (pss_cons (ps_for PassesOwn.never rfl (RT.pi_revA rfl B.reversed (pv 0)) (pg_name (i := 2) sc__tidied.nd rfl (Or.inl rfl)) (pss_cons (ps_if (pt_cmpR op_lt (pe_ix ix_tup (pv 2) (pe_cal c__pivot (hr.mono (by decide)) rfl (pa_cons (pv 2) pa_nil)) (fun _ _ => rfl)) pe_int (nomark _)) (pss_one (ps_set (i := 2) sc__tidied.nd rfl (Or.inl rfl) (pe_cal c_scaled (hr.mono (by decide)) rfl (pa_cons (pv 2) (pa_cons (pe_un un_neg pe_int) pa_nil))))) pss_nil)
  (pss_one (ps_set (i := 1) sc__tidied.nd rfl (Or.inl rfl) (pe_op op_catA (pe_tup (pa_cons (pe_cal c_rest (hr.mono (by decide)) rfl (pa_cons (pv 1) (pa_cons (pv 2) pa_nil))) pa_nil)) (pv 1))))))
  (pss_one (ps_ret (pv 1))))), ?_⟩
  have lR := hR.len
  rw [CB.rd_seq]
  walk_at "rs"
  refine ⟨by decide, fun p0 np0 => ?_⟩
  rw [CB.rd_seq]
  walk_at "rs"
  have s0 : Same H (upd H p0 (.tup [])) := same_upd np0
  refine ⟨_, .inl ⟨SqL.of (s0 _ _ hl), ForRv.w (xs := us) rfl (fun i σ H1 => i ≤ us.length ∧ ∃ ps zs a, σ = [some (.ref l), some (.ref ps), a] ∧ Same H H1 ∧ H1 ps = some (.tup zs) ∧ Rws H1 n zs (tidy n (R.drop (R.length - i)))) ⟨Nat.zero_le _, p0, [], _, rfl, s0, upd_same, ?_⟩ ?_ ?_ ?_⟩⟩
  · rw [Nat.sub_zero, List.drop_length]
    exact .nil
  · rintro i σ H1 ⟨_, ps, zs, a, rfl, s1, _⟩
    exact SqL.of (s1 _ _ hl)
  · rintro i u σ H1 hi hu ⟨_, ps, zs, a, rfl, s1, hps, hzs⟩ N hN
    obtain ⟨f, hf, pf, rfl, hpf⟩ := (hR.same s1).get hu
    rw [lR] at hf hi
    have ef : R.drop (R.length - (i + 1)) = f :: R.drop (R.length - i) := by
      rw [show R.length - (i + 1) = R.length - 1 - i by omega, drop_at hf]
      congr 2
      omega
    have fR : f ∈ R := List.mem_of_getElem? hf
    have fw := (hE.mem f fR).2
    have suf : ∀ g ∈ tidy n (R.drop (R.length - i)), g ∈ tidy n R := fun g hg => by
      rw [tidy_drop] at hg
      exact List.mem_of_mem_drop hg
    obtain ⟨lo', hE'⟩ := hE.drop (R.length - i)
    have tk := tidy_ok hE'
    have ltd : (tidy n (R.drop (R.length - i))).length ≤ R.length := by
      rw [tidy_len, List.length_drop]; omega
    have X4' : X + (tidy n (R.drop (R.length - i))).length * E ≤ 440000 := by
      have := Nat.mul_le_mul_right E ltd
      omega
    walk_at "rs"
    refine seq_cut (fun σ H2 => ∃ p5, σ = [some (.ref l), some (.ref ps), some (.ref p5)] ∧ Same H1 H2 ∧ H2 p5 = some (.tup ((mk n (sgn n f)).map V.int))) (fun Rr hR' => ?_) ?_
    · walk_at "rs"
      refine ⟨pf, n, f, rfl, hpf, hn, fun H2 s2 => ⟨_, _, rfl, SqT.of (s2 _ _ hpf), _, atI_mk fw, _, rfl, ?_⟩⟩
      refine ite2 (fun c => ?_) (fun c => ?_)
      · refine ⟨pf, n, f, _, rfl, s2 _ _ hpf, hn, fun i => mulL (by decide), fun r H3 s3 n3 hr3 => hR' _ _ ⟨r, rfl, s2.trans s3, ?_⟩⟩
        rw [hr3]
        unfold sgn
        rw [if_pos c]
      · refine hR' _ _ ⟨pf, rfl, s2, ?_⟩
        rw [s2 _ _ hpf]
        unfold sgn
        rw [if_neg c]
    rintro σ H2 ⟨p5, rfl, s2, h5⟩
    walk_at "rs"
    refine ⟨ps, .ref p5, zs, tidy n (R.drop (R.length - i)), sgn n f, n, lo', E, X, rfl, SqT.of (s2 _ _ hps), hzs.same s2, ⟨p5, rfl, h5⟩, hn, tk.ech, tk.red.pos, fun g hg => bE g (suf g hg), fun g hg => bP g (suf g hg), sgn_bd (bX f fR), E4, X4', ?_⟩
    rintro r H3 s3 ⟨p6, rfl, h6⟩
    refine ⟨by decide, fun p7 n7 => ?_⟩
    have s37 : Same H3 (upd H3 p7 (.tup [.ref p6])) := same_upd n7
    have z7 := (hzs.same s2).same (s3.trans s37)
    have r7 : Rw (upd H3 p7 (.tup [.ref p6])) n (.ref p6) (rst n (tidy n (R.drop (R.length - i))) (sgn n f)) := ⟨p6, rfl, s37 _ _ h6⟩
    have fin : ∀ p8 H8, Same (upd H3 p7 (.tup [.ref p6])) H8 → H8 p8 = some (.tup (.ref p6 :: zs)) → N [some (.ref l), some (.ref p8), some (.ref p5)] H8 := fun p8 H8 s8 h8 => hN _ _ ⟨by omega, p8, _, _, rfl, s1.trans (s2.trans (s3.trans (s37.trans s8))), h8, by
      rw [ef]
      exact .cons (r7.same s8) (z7.same s8)⟩
    refine ⟨p7, ps, [.ref p6], zs, rfl, rfl, SqT.of upd_same, SqT.of (s37 _ _ (s3 _ _ (s2 _ _ hps))), ?_, (fun z => by cases z), fun _ z => ?_, fun _ _ p8 n8 => ?_⟩
    · have := hzs.len
      rw [this]
      refine Nat.le_of_lt (small_size (n := 1 + (tidy n (R.drop (R.length - i))).length) ?_)
      have := hE.len
      rcases this with h | h
      · omega
      · rw [h] at fR
        exact absurd fR List.not_mem_nil
    · subst z
      exact fin p7 _ (Same.refl _) upd_same
    · exact fin p8 _ (same_upd n8) upd_same
  · rintro σ H1 ⟨_, ps, zs, a, rfl, s1, hps, hzs⟩
    rw [lR, Nat.sub_self, List.drop_zero] at hzs
    walk_at "rs"
    exact k ps zs _ s1 hps hzs
end

local macro_rules | `(tactic| walk_at "rd") => `(tactic| simp (maxSteps := 2000000) only [CB.rd_var, CB.rd_C, CB.rd_op, CB.rd_un, CB.rd_I, CB.rd_I0, CB.rd_U, CB.rd_Eq, CB.rd_Ne, CB.rd_test, CB.rd_B, CB.rd_and, CB.rd_or, CB.rd_not, CB.rd_andV, CB.rd_orV, CB.rd_notV, CB.rd_if, CB.rd_chain, CB.rd_chain3,
  CB.rd_next, CB.rd_seq, CB.rd_drop, CB.rd_ret, CB.rd_retN, CB.rd_break, CB.rd_cont, CB.rd_ifS, CB.rd_asg, CB.rd_name, CB.rd_gsub, CB.rd_gtup, CB.rd_gcons, CB.rd_gnil, CB.rd_par, CB.rd_aug, CB.rd_ipI, CB.rd_nil, CB.rd_cons, CB.rd_tup, CB.rd_lst, CB.rd_CB, CB.rd_call, CB.rd_callS, CB.rd_ixL, CB.rd_ixT, CB.rd_setL, CB.rd_putS, CB.rd_forZ, CB.rd_lcZ, CB.rd_forE, CB.rd_forEL, CB.rd_lcE, CB.rd_isqrt, CB.rd_sum, CB.rd_append, CB.rd_forL, CB.rd_forT, CB.rd_forR1, CB.rd_forR2, CB.rd_forR3, CB.rd_lcL, CB.rd_lcT, CB.rd_lcR1, CB.rd_lcR2, CB.rd_yes, CB.rd_sl, CB.rd_noPart, CB.rd_part, CB.rd_slL, CB.rd_wipe0, CB.rd_rep, CB.rd_tupOf, CB.rd_lenS, CB.rd_gcd, CB.rd_wipe1, CB.rd_sorted3, CB.rd_any, CB.rd_all, CB.rd_ext, CB.rd_glst, CB.rd_sortedM, CB.rd_minD, CB.rd_indexD, CB.rd_pop, CB.rd_dnew, CB.rd_dget, CB.rd_dget2, CB.rd_dput, CB.rd_dm, CB.rd_anyI, CB.rd_ixDC, CB.rd_inDC, CB.rd_cat, CB.rd_lcZR, CB.rd_revR1, CB.rd_max2, CB.rd_forRv, CB.rd_ins, CB.rd_revT, CB.rd_listOf, CB.rd_inI, CB.rd_idxI,
  L2.start, List.map_cons, List.map_nil, List.length_cons, List.length_nil, Nat.reduceAdd, Nat.reduceSub, List.replicate_succ, List.replicate_zero,
  V.int.injEq, V.ref.injEq, V.bl.injEq, V.str.injEq, Option.some.injEq, List.cons.injEq, exists_and_left, exists_eq_left', exists_eq_left, reduceCtorEq, false_and, and_false, or_false, false_or, exists_false, exists_const, and_assoc, true_and, and_true,
  CB.scal_int, CB.scal_str, CB.dec_ii, CB.ite_dec, CB.ite_ndec, List.getElem?_cons_zero, List.getElem?_cons_succ, List.set_cons_zero, List.set_cons_succ, List.append_nil, List.cons_append, List.nil_append, if_true, if_false, Bool.false_eq_true, Bool.not_true, Bool.not_false, CB.K_nox, CB.K_cxOf, eq_self])
local macro_rules | `(tactic| walk_at "rs") => `(tactic| simp (maxSteps := 2000000) only [CB.rd_var, CB.rd_C, CB.rd_op, CB.rd_un, CB.rd_I, CB.rd_I0, CB.rd_U, CB.rd_Eq, CB.rd_Ne, CB.rd_test, CB.rd_B, CB.rd_and, CB.rd_or, CB.rd_not, CB.rd_andV, CB.rd_orV, CB.rd_notV, CB.rd_if, CB.rd_chain, CB.rd_chain3,
  CB.rd_next, CB.rd_drop, CB.rd_ret, CB.rd_retN, CB.rd_break, CB.rd_cont, CB.rd_ifS, CB.rd_asg, CB.rd_name, CB.rd_gsub, CB.rd_gtup, CB.rd_gcons, CB.rd_gnil, CB.rd_par, CB.rd_aug, CB.rd_ipI, CB.rd_nil, CB.rd_cons, CB.rd_tup, CB.rd_lst, CB.rd_CB, CB.rd_call, CB.rd_callS, CB.rd_ixL, CB.rd_ixT, CB.rd_setL, CB.rd_putS, CB.rd_forZ, CB.rd_lcZ, CB.rd_forE, CB.rd_forEL, CB.rd_lcE, CB.rd_isqrt, CB.rd_sum, CB.rd_append, CB.rd_forL, CB.rd_forT, CB.rd_forR1, CB.rd_forR2, CB.rd_forR3, CB.rd_lcL, CB.rd_lcT, CB.rd_lcR1, CB.rd_lcR2, CB.rd_yes, CB.rd_sl, CB.rd_noPart, CB.rd_part, CB.rd_slL, CB.rd_wipe0, CB.rd_rep, CB.rd_tupOf, CB.rd_lenS, CB.rd_gcd, CB.rd_wipe1, CB.rd_sorted3, CB.rd_any, CB.rd_all, CB.rd_ext, CB.rd_glst, CB.rd_sortedM, CB.rd_minD, CB.rd_indexD, CB.rd_pop, CB.rd_dnew, CB.rd_dget, CB.rd_dget2, CB.rd_dput, CB.rd_dm, CB.rd_anyI, CB.rd_ixDC, CB.rd_inDC, CB.rd_cat, CB.rd_lcZR, CB.rd_revR1, CB.rd_max2, CB.rd_forRv, CB.rd_ins, CB.rd_revT, CB.rd_listOf, CB.rd_inI, CB.rd_idxI,
  L2.start, List.map_cons, List.map_nil, List.length_cons, List.length_nil, Nat.reduceAdd, Nat.reduceSub, List.replicate_succ, List.replicate_zero,
  V.int.injEq, V.ref.injEq, V.bl.injEq, V.str.injEq, Option.some.injEq, List.cons.injEq, exists_and_left, exists_eq_left', exists_eq_left, reduceCtorEq, false_and, and_false, or_false, false_or, exists_false, exists_const, and_assoc, true_and, and_true,
  CB.scal_int, CB.scal_str, CB.dec_ii, CB.ite_dec, CB.ite_ndec, List.getElem?_cons_zero, List.getElem?_cons_succ, List.set_cons_zero, List.set_cons_succ, List.append_nil, List.cons_append, List.nil_append, if_true, if_false, Bool.false_eq_true, Bool.not_true, Bool.not_false, CB.K_nox, CB.K_cxOf, eq_self])

local macro_rules | `(tactic| walk_at "nx") => `(tactic| (show tSeq _ _ _ _ _; rw [CB.rd_seq]; walk_at "rs"))


section
variable {P : Program} {w : World} {K : PySem.W.Frag} {mg : Str → Option Value} {base : Heap} {CM CR : Addr}
theorem any_mk {n : Nat} {f : Vc} : (mk n f).any (· != 0) = decide (pvt n f < n) := by
  by_cases c : pvt n f < n
  · rw [decide_eq_true c]
    refine List.any_eq_true.mpr ⟨f (pvt n f), List.mem_map.mpr ⟨_, List.mem_range.mpr c, rfl⟩, ?_⟩
    simpa using pvt_ne c
  · rw [decide_eq_false c]
    refine List.any_eq_false.mpr fun x hx => ?_
    obtain ⟨i, hi, rfl⟩ := List.mem_map.mp hx
    have := pvt_zero (w := n) (f := f) i (by have := List.mem_range.mp hi; omega)
    simpa using this
theorem mk_zero (n : Nat) : (mk n fun _ => 0).map V.int = (List.replicate n [V.int 0]).flatten := by
  induction n with
  | zero => rfl
  | succ n ih =>
    rw [List.replicate_succ', List.flatten_append, ← ih]
    unfold mk
    rw [List.range_succ, List.map_append, List.map_append]
    rfl
theorem pvt_z {n : Nat} : pvt n (fun _ => (0 : Int)) = n := Nat.le_antisymm pvt_le (pvt_ge (Nat.le_refl _) fun _ _ => rfl)
/-- bits behind k turns -/
def zK (M E D k : Nat) : Nat := M + 12 * E + k * (D + 2 + 12 * E)
/-- bits behind all -/
def zZ (M E D : Nat) : Nat := M + 156 * E + 13 * D + 26
theorem zK_le {M E D k : Nat} (h : k ≤ 12) : zK M E D k + D + 2 ≤ zZ M E D := by
  unfold zK zZ
  have : k * (D + 2 + 12 * E) ≤ 12 * (D + 2 + 12 * E) := Nat.mul_le_mul_right _ h
  omega
theorem zK_le' {M E D k : Nat} (h : k ≤ 12) : zK M E D k ≤ zZ M E D := by have := zK_le (M := M) (E := E) (D := D) h; omega
theorem zK_step {M E D k : Nat} : zK M E D k + D + 2 + 12 * E = zK M E D (k + 1) := by
  unfold zK
  have : (k + 1) * (D + 2 + 12 * E) = k * (D + 2 + 12 * E) + (D + 2 + 12 * E) := by rw [Nat.add_mul, Nat.one_mul]
  omega
theorem zK_mono {M E D k l : Nat} (h : k ≤ l) : zK M E D k ≤ zK M E D l := by
  unfold zK
  have : k * (D + 2 + 12 * E) ≤ l * (D + 2 + 12 * E) := Nat.mul_le_mul_right _ h
  omega
theorem Pos.drop {n : Nat} {S : List Vc} (h : Pos n S) (k : Nat) : Pos n (S.drop k) := fun g hg => h g (List.mem_of_mem_drop hg)
theorem Ech.dropL {n lo : Nat} {S : List Vc} {i : Nat} {f : Vc} (h : Ech n lo S) (e : S[i]? = some f) : Ech n (pvt n f + 1) (S.drop (i + 1)) := by
  induction h generalizing i with
  | nil => simp at e
  | @cons lo g S a b c ih =>
    match i, e with
    | 0, e => cases e; exact c
    | i + 1, e => exact ih e
theorem slA_from {a : Addr} {us : List V} {i : Nat} {H : Hp} {Q : VK} (ha : SqT K H a us) (hi : i < us.length) (q : ∀ p H', Same H H' → SqT K H' p (us.drop (i + 1)) → Q (.ref p) H') : rSlA K (.ref a) (some ((i : Int) + 1)) none H Q := by
  refine ⟨a, us, rfl, ha, fun z => ?_, fun z p np => q p _ (same_upd np) (SqT.of ?_)⟩
  · have h1 := z.1
    rw [show (i : Int) + 1 = ((i + 1 : Nat) : Int) by omega, HT.sIx_nat] at h1
    omega
  · rw [upd_same]
    congr 2
    unfold cutV
    rw [HT.sIx_none, show (i : Int) + 1 = ((i + 1 : Nat) : Int) by omega, HT.sIx_nat, show min (i + 1) us.length = i + 1 by omega, List.take_of_length_le (by rw [List.length_drop]; omega)]
theorem Rw.updL {H : Hp} {n : Nat} {v : V} {f : Vc} {l : Addr} {zs : List V} {o : HO} (h : Rw H n v f) (hl : H l = some (.lst zs)) : Rw (upd H l o) n v f := by
  obtain ⟨p, e, hp⟩ := h
  refine ⟨p, e, ?_⟩
  rw [upd_ne (fun z => by rw [z, hl] at hp; cases hp)]
  exact hp
theorem Rws.updL {H : Hp} {n : Nat} {vs : List V} {fs : List Vc} {l : Addr} {zs : List V} {o : HO} (h : Rws H n vs fs) (hl : H l = some (.lst zs)) : Rws (upd H l o) n vs fs := by
  induction h with
  | nil => exact .nil
  | cons a _ ih => exact .cons (a.updL hl) ih
abbrev s__with_row : Stmt := top 11
theorem sc__with_row : FnScope ["space", "row", "left", "rows", "at", "old", "place"] ["space", "row"] (defScope s__with_row) := ⟨rfl, rfl, rfl, by decide +kernel, rfl, by decide +kernel, by decide +kernel⟩

def spWR (K : PySem.W.Frag) (D : Nat) : Sp := fun vs H Q _ => ∃ (s : Addr) (v : V) (us : List V) (S : List Vc) (x : Vc) (n M E : Nat), vs = [.ref s, v] ∧ SqT K H s us ∧ Rws H n us S ∧ Rw H n v x ∧ n ≤ 12 ∧ Ech n 0 S ∧ Red n S ∧ (∀ g ∈ S, Bd E g) ∧ (∀ g ∈ S, Sz D (g (pvt n g))) ∧
  Bd M x ∧ (∀ g ∈ x :: S, Sup n g) ∧ zZ M E D + 12 * E ≤ 440000 ∧ (∀ U, Wr n S (rst n S x) U → ∀ g ∈ tidy n U, Bd E g ∧ Sz 9000 (g (pvt n g))) ∧
  ∀ (r : Addr) (zs : List V) (U : List Vc) (H' : Hp), Same H H' → H' r = some (.tup zs) → Wr n S (rst n S x) U → Rws H' n zs (tidy n U) → Q (.ref r) H'
theorem cal_wr (D : Dn K mg "_with_row" s__with_row ["space", "row"]) (B : Bl mg) (c__pivot : Cal P w K mg base "_pivot" 1 ["row"] spPiv) (c_rest : Cal P w K mg base "rest" 2 ["space", "x"] (spRest K)) (c__merged : Cal P w K mg base "_merged" 2 ["one", "two", "at"] (spMe nn)) (c__tidied : Cal P w K mg base "_tidied" 3 ["rows"] spTi) :
    Cal P w K mg base "_with_row" 4 ["space", "row"] (spWR K nn) := by
  have N0 : nn ≤ 2600 := by decide
  generalize nn = N at *
  refine D.cal sc__with_row (fun vs H Q E h => by obtain ⟨s, v, us, S, x, n, M, E, rfl, _⟩ := h; rfl) (fun fa cdv A outer s H vs Q E hr h => ?_)
  obtain ⟨s, v, us, S, x, n, M, E, rfl, hs, hS, hx, hn, hE, hRd, bE, bP, bM, hSup, z4, hU, k⟩ := h
  refine ⟨_, (pss_cons (ps_set (i := 2) sc__with_row.nd rfl (Or.inl rfl) (pe_cal c_rest (hr.mono (by decide)) rfl (pa_cons (pv 0) (pa_cons (pv 1) pa_nil))))
  (pss_cons (ps_set (i := 3) sc__with_row.nd rfl (Or.inl rfl) (pe_lst pa_nil))
  (pss_cons (ps_for PassesOwn.never rfl (pi_enumT rfl B.enumerate (pa_cons (pv 0) pa_nil)) (pg_tup (n := 2) rfl (pgs_cons (pg_name (i := 4) sc__with_row.nd rfl (Or.inl rfl)) (pgs_cons (pg_name (i := 5) sc__with_row.nd rfl (Or.inl rfl)) pgs_nil))) (pss_cons (ps_set (i := 6) sc__with_row.nd rfl (Or.inl rfl) (pe_cal c__pivot (hr.mono (by decide)) rfl (pa_cons (pv 2) pa_nil)))
  (pss_cons (ps_if (pt_cmpR op_eq (pv 6) (pe_cal c__pivot (hr.mono (by decide)) rfl (pa_cons (pv 5) pa_nil)) (nomark _)) (pss_cons (ps_asg (pe_cal c__merged (hr.mono (by decide)) rfl (pa_cons (pv 5) (pa_cons (pv 2) (pa_cons (pv 6) pa_nil)))) (pg_tup (n := 2) rfl (pgs_cons (pg_name (i := 5) sc__with_row.nd rfl (Or.inl rfl)) (pgs_cons (pg_name (i := 2) sc__with_row.nd rfl (Or.inl rfl)) pgs_nil))))
  (pss_one (ps_set (i := 2) sc__with_row.nd rfl (Or.inl rfl) (pe_cal c_rest (hr.mono (by decide)) rfl (pa_cons (pe_slice sl_tupA (pv 0) (po_some (pe_op op_add (pv 4) pe_int)) po_none) (pa_cons (pv 2) pa_nil)))))) (pss_one (ps_if (pt_cmpR op_lt (pv 6) (pe_cal c__pivot (hr.mono (by decide)) rfl (pa_cons (pv 5) pa_nil)) (nomark _)) (pss_cons (ps_expr (pe_bm PySem.F.plainAttrs_list PySem.F.slot_list_append PySem.F.type_list_append mt_append (pv 3) (pa_cons (pv 2) pa_nil)))
  (pss_one (ps_set (i := 2) sc__with_row.nd rfl (Or.inl rfl) (pe_op op_repA (pe_tup (pa_cons pe_int pa_nil)) (pe_callB cr_lenS rfl B.len (by decide +kernel) (pa_cons (pv 2) pa_nil)))))) pss_nil)))
  (pss_one (ps_expr (pe_bm PySem.F.plainAttrs_list PySem.F.slot_list_append PySem.F.type_list_append mt_append (pv 3) (pa_cons (pv 5) pa_nil)))))))
  (pss_cons (ps_if (pt_val (pe_callB (cr_anyI rfl) rfl B.any (by decide +kernel) (pa_cons (pv 2) pa_nil))) (pss_one (ps_expr (pe_bm PySem.F.plainAttrs_list PySem.F.slot_list_append PySem.F.type_list_append mt_append (pv 3) (pa_cons (pv 2) pa_nil)))) pss_nil)
  (pss_one (ps_ret (pe_cal c__tidied (hr.mono (by decide)) rfl (pa_cons (pv 3) pa_nil)))))))), ?_⟩
  have lS := hS.len
  have l12 : S.length ≤ 12 := by
    rcases hE.len with h | h
    · omega
    · rw [h]; exact Nat.zero_le _
  have E4 : E ≤ 440000 := by omega
  have bP9 : ∀ g ∈ S, Sz 9000 (g (pvt n g)) := fun g hg => (bP g hg).le (by omega)
  have sE : S.length * E ≤ 12 * E := Nat.mul_le_mul_right _ l12
  have m4 : M + S.length * E ≤ 440000 := by unfold zZ at z4; omega
  rw [CB.rd_seq]
  walk_at "rs"
  refine ⟨s, v, us, S, x, n, 0, E, M, rfl, hs, hS, hx, by omega, hE, hRd.pos, bE, bP9, bM, E4, m4, fun v0 H1 s1 hv0 => ?_⟩
  walk_at "nx"
  refine ⟨by decide, fun l nl => ?_⟩
  have nlH : H l = none := s1.free nl
  have sH2 : Same H (upd H1 l (.lst [])) := s1.trans (same_upd nl)
  have hs2 := sqT_same sH2 hs
  refine seq_cut (fun σ H3 => ∃ v' y us' Bt a b c, σ = [some (.ref s), some v, some v', some (.ref l), a, b, c] ∧ Same H H3 ∧ H3 l = some (.lst us') ∧ us'.length ≤ 24 ∧ Rws H3 n us' Bt ∧ Rw H3 n v' y ∧ (∀ U, Wr n [] y U → Wr n S (rst n S x) (Bt ++ U)) ∧ Bd (zZ M E N) y ∧ ∀ g ∈ Bt, Bd (zZ M E N) g) (fun Rr hR => ?_) ?_
  · walk_at "rs"
    refine ⟨_, hs2, ForE.w (xs := us) (fun i σ H3 => ∃ v' y us' Bt a b c, σ = [some (.ref s), some v, some v', some (.ref l), a, b, c] ∧ Same H H3 ∧ H3 l = some (.lst us') ∧ us'.length ≤ 2 * i ∧ Rws H3 n us' Bt ∧ Rw H3 n v' y ∧ (∀ U, Wr n (S.drop i) y U → Wr n S (rst n S x) (Bt ++ U)) ∧ Bd (zK M E N i) y ∧ (∀ g ∈ Bt, Bd (zZ M E N) g) ∧
        ∀ g ∈ S.drop i, 0 ≤ y (pvt n g) ∧ y (pvt n g) < g (pvt n g)) ⟨v0, rst n S x, [], [], _, _, _, rfl, sH2, upd_same, Nat.le_refl _, .nil, hv0.same (same_upd nl), fun U h => h, ?_, fun g hg => absurd hg List.not_mem_nil, fun g hg => rst_red hE hRd.pos x g hg⟩ ?_ ?_ ?_⟩
    · refine (rst_bd bE bM).le ?_
      unfold zK
      omega
    · rintro i σ H3 _ ⟨v', y, us', Bt, a, b, c, rfl, s3, _⟩
      exact sqT_same s3 hs
    · rintro i u T σ H3 hu ⟨v', y, us', Bt, a, b, c, rfl, s3, hl, hlen, hB, hy, hW, by', bB, hred⟩ nT Nn hN
      obtain ⟨f, hf, hfr⟩ := (hS.same s3).get hu
      have hi : i < S.length := (List.getElem?_eq_some_iff.mp hf).1
      have fS : f ∈ S := List.mem_of_getElem? hf
      have fw := (hE.mem f fS).2
      have fp := hRd.pos f fS
      have ed := drop_at hf
      have hE' := hE.dropL hf
      have lT : l ≠ T := fun z => by rw [← z, hl] at nT; cases nT
      have sT : Same H3 (upd H3 T (.tup [.int (i : Nat), u])) := same_upd nT
      have rf := hred f (by rw [ed]; exact List.mem_cons_self)
      have hred' : ∀ g ∈ S.drop (i + 1), 0 ≤ y (pvt n g) ∧ y (pvt n g) < g (pvt n g) := fun g hg => hred g (by rw [ed]; exact List.mem_cons_of_mem _ hg)
      obtain ⟨pu, rfl, hpu⟩ := id hfr
      obtain ⟨py, rfl, hpy⟩ := id hy
      walk_at "rs"
      refine ⟨_, SqT.of upd_same, rfl, _, _, rfl, _, _, rfl, rfl, ?_⟩
      walk_at "nx"
      refine ⟨py, n, y, rfl, sT _ _ hpy, by omega, fun H4 s4 => ?_⟩
      have sH4 : Same H3 H4 := sT.trans s4
      have s34 : Same H H4 := s3.trans sH4
      refine seq_cut (fun σ H5 => ∃ v2 y2 o2 f2 us2 B2 c, σ = [some (.ref s), some v, some v2, some (.ref l), some (.int (i : Nat)), some o2, c] ∧ Same H H5 ∧ H5 l = some (.lst us2) ∧ us2.length ≤ 2 * i + 1 ∧ Rws H5 n us2 B2 ∧ Rw H5 n o2 f2 ∧ Rw H5 n v2 y2 ∧
        (∀ U, Wr n (S.drop (i + 1)) y2 U → Wr n S (rst n S x) (B2 ++ f2 :: U)) ∧ Bd (zK M E N (i + 1)) y2 ∧ (∀ g ∈ B2, Bd (zZ M E N) g) ∧ Bd (zZ M E N) f2 ∧ ∀ g ∈ S.drop (i + 1), 0 ≤ y2 (pvt n g) ∧ y2 (pvt n g) < g (pvt n g)) (fun R2 hR2 => ?_) ?_
      · walk_at "rs"
        refine ⟨pu, n, f, rfl, sH4 _ _ hpu, by omega, fun H5 s5 => ?_⟩
        have sH5 : Same H3 H5 := sH4.trans s5
        have s35 : Same H H5 := s3.trans sH5
        have hl5 := sH5 _ _ hl
        have hy5 := hy.same sH5
        have hf5 := hfr.same sH5
        have hB5 := hB.same sH5
        have i12 : i ≤ 12 := by omega
        have zi := zK_le' (M := M) (E := E) (D := N) i12
        have zi1 := zK_mono (M := M) (E := E) (D := N) (Nat.le_succ i)
        refine ⟨by simp [scal], ?_⟩
        by_cases c : pvt n y = pvt n f
        · rw [if_pos (by rw [c])]
          walk_at "nx"
          have y0 : 0 < y (pvt n f) := by
            have h1 := pvt_ne (w := n) (f := y) (by omega)
            rw [c] at h1
            omega
          have zf := bP f fS
          refine ⟨.ref pu, .ref py, f, y, n, zK M E N i, by rw [c], hf5, hy5, by omega, fw, c, fp, y0, zf, natS (by omega) zf, (bE f fS).le (by unfold zK; omega), by', by omega, fun r r1 r2 H6 g u v a b s6 hr6 g0 ea eb eg h1 h2 b1 b2 => ?_⟩
          refine ⟨r, rfl, _, SqT.of hr6, rfl, _, _, rfl, _, _, rfl, rfl, ?_⟩
          refine slA_from (sqT_same (s35.trans s6) hs) (by rw [lS]; exact hi) fun p7 H7 s7 hp7 => ?_
          have eb' : N + zK M E N i + 2 + (S.drop (i + 1)).length * E ≤ zK M E N (i + 1) := by
            have : (S.drop (i + 1)).length * E ≤ 12 * E := Nat.mul_le_mul_right _ (by rw [List.length_drop]; omega)
            have := zK_step (M := M) (E := E) (D := N) (k := i)
            omega
          have z1 := zK_le' (M := M) (E := E) (D := N) (show i + 1 ≤ 12 by omega)
          refine ⟨p7, .ref r2, us.drop (i + 1), S.drop (i + 1), _, n, pvt n f + 1, E, N + zK M E N i + 2, rfl, hp7, (hS.same ((s35.trans s6).trans s7)).drop _, h2.same s7, by omega, hE', hRd.pos.drop _, fun g hg => bE g (List.mem_of_mem_drop hg), fun g hg => bP9 g (List.mem_of_mem_drop hg), b2, E4, by omega, fun v8 H8 s8 hv8 => ?_⟩
          have s68 : Same H5 H8 := s6.trans (s7.trans s8)
          refine hR2 _ _ ⟨v8, _, .ref r1, _, us', Bt, _, rfl, s35.trans s68, s68 _ _ hl5, by omega, hB5.same s68, h1.same (s7.trans s8), hv8, fun U hU' => hW _ ?_, (rst_bd (fun g hg => bE g (List.mem_of_mem_drop hg)) b2).le eb', bB, b1.le (by have := zK_le (M := M) (E := E) (D := N) i12; omega), fun g hg => rst_red hE' (hRd.pos.drop _) _ g hg⟩
          rw [ed]
          exact .merge g u v a b c fw g0 ea (by rw [← c, c]; exact eb) eg hU'
        · rw [if_neg (fun z => c (by have := V.int.inj z; omega))]
          refine ⟨pu, n, f, rfl, sH5 _ _ hpu, by omega, fun H6 s6 => ?_⟩
          refine ⟨_, rfl, ?_⟩
          have s36 : Same H H6 := s35.trans s6
          have hl6 := s6 _ _ hl5
          by_cases c2 : pvt n y < pvt n f
          · rw [if_pos (by omega)]
            walk_at "nx"
            refine ⟨tyL hl6, _, hl6, small_size (by omega), by decide, fun p7 n7 => ?_⟩
            have s67 : Same H (upd H6 l (.lst (us' ++ [.ref py]))) := same_at s36 nlH
            have s78 : Same (upd H6 l (.lst (us' ++ [.ref py]))) (upd (upd H6 l (.lst (us' ++ [.ref py]))) p7 (.tup [.int 0])) := same_upd n7
            have hy6 := (hy5.same s6).updL (o := .lst (us' ++ [.ref py])) hl6
            have hy7 := hy6.same s78
            obtain ⟨q, e, hq⟩ := id hy7
            cases e
            refine ⟨_, .inr ⟨_, SqT.of hq, rfl⟩, ?_⟩
            rw [List.length_map, mk_len]
            refine ⟨p7, n, [.int 0], rfl, rfl, upd_same, by simp, by omega, by simp, fun r8 H8 s8 hr8 => ?_⟩
            have z1 := zK_mono (M := M) (E := E) (D := N) (Nat.zero_le (i + 1))
            refine hR2 _ _ ⟨.ref r8, fun _ => 0, .ref pu, f, us' ++ [.ref py], Bt ++ [y], _, rfl, s67.trans (s78.trans s8), s8 _ _ (s78 _ _ upd_same), by rw [List.length_append, List.length_singleton]; omega, ((((hB5.same s6).updL hl6).app (.cons hy6 .nil)).same s78).same s8, ((((hf5.same s6).updL hl6).same s78).same s8), ⟨r8, rfl, by rw [hr8, mk_zero]⟩, fun U hU' => ?_, fun j => Nat.two_pow_pos _, fun g hg => ?_, (bE f fS).le (by unfold zZ; omega), fun g hg => ?_⟩
            · have eU := hU'.zero hE' pvt_z
              rw [eU, List.append_assoc]
              refine hW _ ?_
              rw [ed]
              exact .ins c2
            · rcases List.mem_append.mp hg with hg | hg
              · exact bB g hg
              · rw [List.mem_singleton.mp hg]; exact by'.le zi
            · have := hred' g hg
              show (0 : Int) ≤ 0 ∧ (0 : Int) < g (pvt n g)
              omega
          · rw [if_neg (by omega)]
            refine hR2 _ _ ⟨.ref py, y, .ref pu, f, us', Bt, _, rfl, s36, hl6, by omega, hB5.same s6, hf5.same s6, hy5.same s6, fun U hU' => hW _ ?_, by'.le zi1, bB, (bE f fS).le (by unfold zZ; omega), hred'⟩
            rw [ed]
            exact .skip (by omega) hU'
      rintro σ H5 ⟨v2, y2, o2, f2, us2, B2, c2, rfl, s5, hl5, hlen5, hB5, ho5, hy5, hW5, by5, bB5, bf5, hred5⟩
      walk_at "rs"
      refine ⟨tyL hl5, _, hl5, small_size (by omega), hN _ _ ⟨v2, y2, us2 ++ [o2], B2 ++ [f2], _, _, _, rfl, same_at s5 nlH, upd_same, by rw [List.length_append, List.length_singleton]; omega, (hB5.updL hl5).app (.cons (ho5.updL hl5) .nil), hy5.updL hl5, fun U hU' => ?_, by5, fun g hg => ?_, hred5⟩⟩
      · rw [List.append_assoc]
        exact hW5 U hU'
      · rcases List.mem_append.mp hg with hg | hg
        · exact bB5 g hg
        · rw [List.mem_singleton.mp hg]; exact bf5
    · rintro σ H3 ⟨v', y, us', Bt, a, b, c, rfl, s3, hl, hlen, hB, hy, hW, by', bB, _⟩
      rw [lS, List.drop_length] at hW
      refine hR _ _ ⟨v', y, us', Bt, a, b, c, rfl, s3, hl, by omega, hB, hy, hW, by'.le (zK_le' (by rw [lS]; exact l12)), bB⟩
  rintro σ H3 ⟨v', y, us', Bt, a, b, c, rfl, s3, hl, hlen, hB, hy, hW, by', bB⟩
  have fin : ∀ H4 us4 B4, Same H H4 → H4 l = some (.lst us4) → Rws H4 n us4 B4 → Wr n S (rst n S x) B4 → (∀ g ∈ B4, Bd (zZ M E N) g) → spTi [V.ref l] H4 Q E0 := fun H4 us4 B4 s4 h4 r4 w4 b4 => by
    have sp := w4.spec 0 hE (fun i hi => absurd hi (Nat.not_lt_zero i)) (Nat.zero_le _) (fun g hg => by
      rcases List.mem_cons.mp hg with rfl | hg
      · exact rst_sup (fun f hf => hSup f (List.mem_cons_of_mem _ hf)) (hSup x List.mem_cons_self)
      · exact hSup g (List.mem_cons_of_mem _ hg))
    have lB : B4.length ≤ 12 := by
      rcases sp.ech.len with h | h
      · omega
      · rw [h]; exact Nat.zero_le _
    have := Nat.mul_le_mul_right E lB
    exact ⟨l, us4, B4, n, 0, E, zZ M E N, rfl, h4, r4, by omega, sp.ech, fun g hg => (hU B4 w4 g hg).1, fun g hg => (hU B4 w4 g hg).2, b4, by omega, E4, fun r zs H' s5 hr hz => k r zs B4 H' (s4.trans s5) hr w4 hz⟩
  obtain ⟨py, rfl, hpy⟩ := id hy
  rw [CB.rd_seq]
  walk_at "rs"
  refine ⟨_, .inr (SqT.of hpy), ?_⟩
  rw [any_mk]
  by_cases c0 : pvt n y < n
  · rw [decide_eq_true c0, if_pos rfl]
    refine ⟨tyL hl, _, hl, small_size (by omega), ?_⟩
    · exact fin _ _ _ (same_at s3 nlH) upd_same ((hB.updL hl).app (.cons (hy.updL hl) .nil)) (hW _ (.nilN c0)) fun g hg => by
        rcases List.mem_append.mp hg with hg | hg
        · exact bB g hg
        · rw [List.mem_singleton.mp hg]; exact by'
  · rw [decide_eq_false c0, if_neg (by decide)]
    have := hW [] (.nilZ (Nat.le_antisymm pvt_le (by omega)))
    rw [List.append_nil] at this
    exact fin _ _ _ s3 hl hB this bB
end

local macro_rules | `(tactic| walk_at "rd") => `(tactic| simp (maxSteps := 2000000) only [CB.rd_var, CB.rd_C, CB.rd_op, CB.rd_un, CB.rd_I, CB.rd_I0, CB.rd_U, CB.rd_Eq, CB.rd_Ne, CB.rd_test, CB.rd_B, CB.rd_and, CB.rd_or, CB.rd_not, CB.rd_andV, CB.rd_orV, CB.rd_notV, CB.rd_if, CB.rd_chain, CB.rd_chain3,
  CB.rd_next, CB.rd_seq, CB.rd_drop, CB.rd_ret, CB.rd_retN, CB.rd_break, CB.rd_cont, CB.rd_ifS, CB.rd_asg, CB.rd_name, CB.rd_gsub, CB.rd_gtup, CB.rd_gcons, CB.rd_gnil, CB.rd_par, CB.rd_aug, CB.rd_ipI, CB.rd_nil, CB.rd_cons, CB.rd_tup, CB.rd_lst, CB.rd_CB, CB.rd_call, CB.rd_callS, CB.rd_ixL, CB.rd_ixT, CB.rd_setL, CB.rd_putS, CB.rd_forZ, CB.rd_lcZ, CB.rd_forE, CB.rd_forEL, CB.rd_lcE, CB.rd_isqrt, CB.rd_sum, CB.rd_append, CB.rd_forL, CB.rd_forT, CB.rd_forR1, CB.rd_forR2, CB.rd_forR3, CB.rd_lcL, CB.rd_lcT, CB.rd_lcR1, CB.rd_lcR2, CB.rd_yes, CB.rd_sl, CB.rd_noPart, CB.rd_part, CB.rd_slL, CB.rd_wipe0, CB.rd_rep, CB.rd_tupOf, CB.rd_lenS, CB.rd_gcd, CB.rd_wipe1, CB.rd_sorted3, CB.rd_any, CB.rd_all, CB.rd_ext, CB.rd_glst, CB.rd_sortedM, CB.rd_minD, CB.rd_indexD, CB.rd_pop, CB.rd_dnew, CB.rd_dget, CB.rd_dget2, CB.rd_dput, CB.rd_dm, CB.rd_anyI, CB.rd_ixDC, CB.rd_inDC, CB.rd_cat, CB.rd_lcZR, CB.rd_revR1, CB.rd_max2, CB.rd_forRv, CB.rd_ins, CB.rd_revT, CB.rd_listOf, CB.rd_inI, CB.rd_idxI,
  L2.start, List.map_cons, List.map_nil, List.length_cons, List.length_nil, Nat.reduceAdd, Nat.reduceSub, List.replicate_succ, List.replicate_zero,
  V.int.injEq, V.ref.injEq, V.bl.injEq, V.str.injEq, Option.some.injEq, List.cons.injEq, exists_and_left, exists_eq_left', exists_eq_left, reduceCtorEq, false_and, and_false, or_false, false_or, exists_false, exists_const, and_assoc, true_and, and_true,
  CB.scal_int, CB.scal_str, CB.dec_ii, CB.ite_dec, CB.ite_ndec, List.getElem?_cons_zero, List.getElem?_cons_succ, List.set_cons_zero, List.set_cons_succ, List.append_nil, List.cons_append, List.nil_append, if_true, if_false, Bool.false_eq_true, Bool.not_true, Bool.not_false, CB.K_nox, CB.K_cxOf, eq_self])
local macro_rules | `(tactic| walk_at "rs") => `(tactic| simp (maxSteps := 2000000) only [CB.rd_var, CB.rd_C, CB.rd_op, CB.rd_un, CB.rd_I, CB.rd_I0, CB.rd_U, CB.rd_Eq, CB.rd_Ne, CB.rd_test, CB.rd_B, CB.rd_and, CB.rd_or, CB.rd_not, CB.rd_andV, CB.rd_orV, CB.rd_notV, CB.rd_if, CB.rd_chain, CB.rd_chain3,
  CB.rd_next, CB.rd_drop, CB.rd_ret, CB.rd_retN, CB.rd_break, CB.rd_cont, CB.rd_ifS, CB.rd_asg, CB.rd_name, CB.rd_gsub, CB.rd_gtup, CB.rd_gcons, CB.rd_gnil, CB.rd_par, CB.rd_aug, CB.rd_ipI, CB.rd_nil, CB.rd_cons, CB.rd_tup, CB.rd_lst, CB.rd_CB, CB.rd_call, CB.rd_callS, CB.rd_ixL, CB.rd_ixT, CB.rd_setL, CB.rd_putS, CB.rd_forZ, CB.rd_lcZ, CB.rd_forE, CB.rd_forEL, CB.rd_lcE, CB.rd_isqrt, CB.rd_sum, CB.rd_append, CB.rd_forL, CB.rd_forT, CB.rd_forR1, CB.rd_forR2, CB.rd_forR3, CB.rd_lcL, CB.rd_lcT, CB.rd_lcR1, CB.rd_lcR2, CB.rd_yes, CB.rd_sl, CB.rd_noPart, CB.rd_part, CB.rd_slL, CB.rd_wipe0, CB.rd_rep, CB.rd_tupOf, CB.rd_lenS, CB.rd_gcd, CB.rd_wipe1, CB.rd_sorted3, CB.rd_any, CB.rd_all, CB.rd_ext, CB.rd_glst, CB.rd_sortedM, CB.rd_minD, CB.rd_indexD, CB.rd_pop, CB.rd_dnew, CB.rd_dget, CB.rd_dget2, CB.rd_dput, CB.rd_dm, CB.rd_anyI, CB.rd_ixDC, CB.rd_inDC, CB.rd_cat, CB.rd_lcZR, CB.rd_revR1, CB.rd_max2, CB.rd_forRv, CB.rd_ins, CB.rd_revT, CB.rd_listOf, CB.rd_inI, CB.rd_idxI,
  L2.start, List.map_cons, List.map_nil, List.length_cons, List.length_nil, Nat.reduceAdd, Nat.reduceSub, List.replicate_succ, List.replicate_zero,
  V.int.injEq, V.ref.injEq, V.bl.injEq, V.str.injEq, Option.some.injEq, List.cons.injEq, exists_and_left, exists_eq_left', exists_eq_left, reduceCtorEq, false_and, and_false, or_false, false_or, exists_false, exists_const, and_assoc, true_and, and_true,
  CB.scal_int, CB.scal_str, CB.dec_ii, CB.ite_dec, CB.ite_ndec, List.getElem?_cons_zero, List.getElem?_cons_succ, List.set_cons_zero, List.set_cons_succ, List.append_nil, List.cons_append, List.nil_append, if_true, if_false, Bool.false_eq_true, Bool.not_true, Bool.not_false, CB.K_nox, CB.K_cxOf, eq_self])

local macro_rules | `(tactic| walk_at "nx") => `(tactic| (show tSeq _ _ _ _ _; rw [CB.rd_seq]; walk_at "rs"))


section
variable {P : Program} {w : World} {K : PySem.W.Frag} {mg : Str → Option Value} {base : Heap} {CM CR : Addr}
theorem sqL_same {H H' : Hp} {a : Addr} {xs : List V} (s : Same H H') (h : SqL K H a xs) : SqL K H' a xs := by
  rcases h with (h | ⟨o, h⟩) | h
  · exact .inl (.inl (s _ _ h))
  · exact .inl (.inr ⟨o, s _ _ h⟩)
  · exact .inr h
theorem Sz.of {m : Nat} {x : Int} (h : x.natAbs ≤ 2 ^ m) : Sz (m + 1) x := by
  unfold Sz
  rw [Nat.pow_succ]
  have := Nat.one_le_two_pow (n := m)
  omega
/-- the bounds of a reduced table -/
theorem Tb.bd {n m N : Nat} {R T I : List Vc} (t : Tb n R T) (r : Rep n R T I) (hn : n ≤ 12) (hb : ∀ f ∈ R, Bd m f) (hN : 12 * m + 60 ≤ N) :
    (∀ g ∈ T, Sz N (g (pvt n g))) ∧ ∀ g ∈ T, Bd (24 * m + 124) g := by
  cases hT : T with
  | nil => exact ⟨fun g hg => absurd hg List.not_mem_nil, fun g hg => absurd hg List.not_mem_nil⟩
  | cons f T' =>
    have hl : T.length = T'.length + 1 := by rw [hT]; rfl
    have h11 : T'.length ≤ 11 := by
      rcases t.ech.len with h | h
      · omega
      · rw [h] at hT; cases hT
    obtain ⟨h1, h2⟩ := t.bounds r (M := 2 ^ m) (fun f hf i => Nat.le_of_lt (hb f hf i)) hl
    rw [← hT]
    exact ⟨fun g hg => Nat.lt_of_le_of_lt (h1 g hg) (Nat.lt_of_lt_of_le (zB_lt h11) (Nat.pow_le_pow_right (by decide) hN)), fun g hg i => Nat.lt_of_le_of_lt (h2 g hg i) (zE_lt h11)⟩
abbrev s_span : Stmt := top 9
theorem sc_span : FnScope ["rows", "width", "space", "row"] ["rows", "width"] (defScope s_span) := ⟨rfl, rfl, rfl, by decide +kernel, rfl, by decide +kernel, by decide +kernel⟩

def spSpan (K : PySem.W.Frag) (m : Nat) : Sp := fun vs H Q _ => ∃ (s : Addr) (us : List V) (R : List Vc) (n : Nat), vs = [.ref s, .int n] ∧ (SqL K H s us ∨ SqT K H s us) ∧ Rws H n us R ∧ n ≤ 12 ∧ R.length ≤ 1000 ∧ (∀ f ∈ R, Sup n f) ∧ (∀ f ∈ R, Bd m f) ∧
  ∀ (r : Addr) (zs : List V) (T : List Vc) (H' : Hp), Same H H' → H' r = some (.tup zs) → Rws H' n zs T → Tb n R T → (∀ g ∈ T, Sz (12 * m + 60) (g (pvt n g))) → (∀ g ∈ T, Bd (24 * m + 124) g) → Q (.ref r) H'
theorem span_step {n m : Nat} {R T I : List Vc} {x : Vc} (m4 : zZ m (24 * m + 124) (12 * m + 60) + 12 * (24 * m + 124) ≤ 440000) (hn : n ≤ 12) (t : Tb n R T) (r : Rep n R T I) (hs : ∀ f ∈ R ++ [x], Sup n f) (hb : ∀ f ∈ R ++ [x], Bd m f) {U : List Vc} (w : Wr n T (rst n T x) U) :
    Tb n (R ++ [x]) (tidy n U) ∧ ∃ I', Rep n (R ++ [x]) (tidy n U) I' := by
  have k := t.next hs w
  refine ⟨k.1, r.next t k.1 ?_⟩
  rw [tidy_len]
  exact w.len
theorem with_ok {m n : Nat} {R T I : List Vc} {x : Vc} {s : Addr} {v : V} {us : List V} {H : Hp} {Q : VK} {E : XK} (m9 : 12 * m + 60 ≤ 2600) (m4 : zZ m (24 * m + 124) (12 * m + 60) + 12 * (24 * m + 124) ≤ 440000) (hn : n ≤ 12) (t : Tb n R T) (r : Rep n R T I) (hs : ∀ f ∈ R ++ [x], Sup n f) (hb : ∀ f ∈ R ++ [x], Bd m f)
    (h1 : SqT K H s us) (h2 : Rws H n us T) (h3 : Rw H n v x) (q : ∀ (r : Addr) (zs : List V) (T' I' : List Vc) (H' : Hp), Same H H' → H' r = some (.tup zs) → Rws H' n zs T' → Tb n (R ++ [x]) T' → Rep n (R ++ [x]) T' I' → Q (.ref r) H') : spWR K (12 * m + 60) [.ref s, v] H Q E := by
  have b := t.bd r hn (fun f hf => hb f (List.mem_append_left _ hf)) (Nat.le_refl _)
  refine ⟨s, v, us, T, x, n, m, 24 * m + 124, rfl, h1, h2, h3, hn, t.ech, t.red, b.2, b.1, hb x (List.mem_append_right _ List.mem_cons_self), fun g hg => ?_, m4, fun U w g hg => ?_, fun r3 zs U H' s hr w hz => ?_⟩
  · rcases List.mem_cons.mp hg with rfl | hg
    · exact hs g (List.mem_append_right _ List.mem_cons_self)
    · exact t.sups (fun f hf => hs f (List.mem_append_left _ hf)) g hg
  · obtain ⟨t', I', r'⟩ := span_step m4 hn t r hs hb w
    have b' := t'.bd r' hn hb (Nat.le_refl _)
    exact ⟨b'.2 g hg, (b'.1 g hg).le (by omega)⟩
  · obtain ⟨t', I', r'⟩ := span_step m4 hn t r hs hb w
    exact q r3 zs _ I' H' s hr hz t' r'
theorem cal_span (D : Dn K mg "span" s_span ["rows", "width"]) (B : Bl mg) (c__with_row : Cal P w K mg base "_with_row" 4 ["space", "row"] (spWR K nn)) : Cal P w K mg base "span" 5 ["rows", "width"] (spSpan K mm) := by
  have m9 : 12 * mm + 60 ≤ 2600 := by decide
  have m4 : zZ mm (24 * mm + 124) (12 * mm + 60) + 12 * (24 * mm + 124) ≤ 440000 := by decide
  replace c__with_row : Cal P w K mg base "_with_row" 4 ["space", "row"] (spWR K (12 * mm + 60)) := c__with_row
  generalize mm = m at *
  refine D.cal sc_span (fun vs H Q E h => by obtain ⟨s, us, R, n, rfl, _⟩ := h; rfl) (fun fa cdv A outer s H vs Q E hr h => ?_)
  obtain ⟨s, us, R, n, rfl, hs, hR, hn, hl, hS, hB, k⟩ := h
  rcases hs with hs | hs
  · refine ⟨_, (pss_cons (ps_set (i := 2) sc_span.nd rfl (Or.inl rfl) (pe_tup pa_nil))
  (pss_cons (ps_for PassesOwn.never rfl (pi_list (pv 0)) (pg_name (i := 3) sc_span.nd rfl (Or.inl rfl)) (pss_one (ps_set (i := 2) sc_span.nd rfl (Or.inl rfl) (pe_cal c__with_row (hr.mono (by decide)) rfl (pa_cons (pv 2) (pa_cons (pe_callTy cr_tupOf rfl B.tuple boot_tuple (pa_cons (pv 3) pa_nil)) pa_nil))))))
  (pss_one (ps_ret (pv 2))))), ?_⟩
    have lR := hR.len
    rw [CB.rd_seq]
    walk_at "rs"
    refine ⟨by decide, fun p0 np0 => ?_⟩
    have s0 : Same H (upd H p0 (.tup [])) := same_upd np0
    have hs' : ∀ H1, Same H H1 → SqL K H1 s us := fun H1 s1 => sqL_same s1 hs
    rw [CB.rd_seq]
    walk_at "rs"
    refine ⟨⟨_, hs' _ s0⟩, ForL.w (xs := us) (fun i σ H1 => ∃ ps zs T I a, σ = [some (.ref s), some (.int n), some (.ref ps), a] ∧ Same H H1 ∧ H1 ps = some (.tup zs) ∧ Rws H1 n zs T ∧ Tb n (R.take i) T ∧ Rep n (R.take i) T I) ⟨p0, [], [], [], _, rfl, s0, upd_same, .nil, .nil, .nil⟩ ?_ ?_ ?_⟩
    · rintro i σ H1 _ ⟨ps, zs, T, I, a, rfl, s1, _⟩
      exact hs' _ s1
    · rintro i u σ H1 hu ⟨ps, zs, T, I, a, rfl, s1, hps, hz, ht, hI⟩ N hN
      obtain ⟨f, hf, pf, rfl, hpf⟩ := (hR.same s1).get hu
      have et : R.take (i + 1) = R.take i ++ [f] := by rw [List.take_add_one, hf]; rfl
      have sub : ∀ g ∈ R.take i ++ [f], g ∈ R := fun g hg => by rw [← et] at hg; exact List.mem_of_mem_take hg
      walk_at "rs"
      refine ⟨_, .inr ⟨SqT.of hpf, ?_⟩⟩
      refine with_ok m9 m4 hn ht hI (fun g hg => hS g (sub g hg)) (fun g hg => hB g (sub g hg)) (SqT.of hps) hz ⟨pf, rfl, hpf⟩ fun r zs' T' I' H2 s2 hr2 hz2 t2 r2 => ?_
      exact hN _ _ ⟨r, zs', T', I', _, rfl, s1.trans s2, hr2, hz2, by rw [et]; exact t2, by rw [et]; exact r2⟩
    · rintro σ H1 ⟨ps, zs, T, I, a, rfl, s1, hps, hz, ht, hI⟩
      rw [lR, List.take_length] at ht hI
      walk_at "rs"
      have b := ht.bd hI hn hB (Nat.le_refl _)
      exact k ps zs T H1 s1 hps hz ht b.1 b.2
  · refine ⟨_, (pss_cons (ps_set (i := 2) sc_span.nd rfl (Or.inl rfl) (pe_tup pa_nil))
  (pss_cons (ps_for PassesOwn.never rfl (pi_tup (pv 0)) (pg_name (i := 3) sc_span.nd rfl (Or.inl rfl)) (pss_one (ps_set (i := 2) sc_span.nd rfl (Or.inl rfl) (pe_cal c__with_row (hr.mono (by decide)) rfl (pa_cons (pv 2) (pa_cons (pe_callTy cr_tupOf rfl B.tuple boot_tuple (pa_cons (pv 3) pa_nil)) pa_nil))))))
  (pss_one (ps_ret (pv 2))))), ?_⟩
    have lR := hR.len
    rw [CB.rd_seq]
    walk_at "rs"
    refine ⟨by decide, fun p0 np0 => ?_⟩
    have s0 : Same H (upd H p0 (.tup [])) := same_upd np0
    have hs' : ∀ H1, Same H H1 → SqT K H1 s us := fun H1 s1 => sqT_same s1 hs
    rw [CB.rd_seq]
    walk_at "rs"
    refine ⟨⟨_, hs' _ s0⟩, ForT.w (xs := us) (fun i σ H1 => ∃ ps zs T I a, σ = [some (.ref s), some (.int n), some (.ref ps), a] ∧ Same H H1 ∧ H1 ps = some (.tup zs) ∧ Rws H1 n zs T ∧ Tb n (R.take i) T ∧ Rep n (R.take i) T I) ⟨p0, [], [], [], _, rfl, s0, upd_same, .nil, .nil, .nil⟩ ?_ ?_ ?_⟩
    · rintro i σ H1 _ ⟨ps, zs, T, I, a, rfl, s1, _⟩
      exact hs' _ s1
    · rintro i u σ H1 hu ⟨ps, zs, T, I, a, rfl, s1, hps, hz, ht, hI⟩ N hN
      obtain ⟨f, hf, pf, rfl, hpf⟩ := (hR.same s1).get hu
      have et : R.take (i + 1) = R.take i ++ [f] := by rw [List.take_add_one, hf]; rfl
      have sub : ∀ g ∈ R.take i ++ [f], g ∈ R := fun g hg => by rw [← et] at hg; exact List.mem_of_mem_take hg
      walk_at "rs"
      refine ⟨_, .inr ⟨SqT.of hpf, ?_⟩⟩
      refine with_ok m9 m4 hn ht hI (fun g hg => hS g (sub g hg)) (fun g hg => hB g (sub g hg)) (SqT.of hps) hz ⟨pf, rfl, hpf⟩ fun r zs' T' I' H2 s2 hr2 hz2 t2 r2 => ?_
      exact hN _ _ ⟨r, zs', T', I', _, rfl, s1.trans s2, hr2, hz2, by rw [et]; exact t2, by rw [et]; exact r2⟩
    · rintro σ H1 ⟨ps, zs, T, I, a, rfl, s1, hps, hz, ht, hI⟩
      rw [lR, List.take_length] at ht hI
      walk_at "rs"
      have b := ht.bd hI hn hB (Nat.le_refl _)
      exact k ps zs T H1 s1 hps hz ht b.1 b.2
abbrev s_holds : Stmt := top 15
theorem sc_holds : FnScope ["space", "x"] ["space", "x"] (defScope s_holds) := ⟨rfl, rfl, rfl, by decide +kernel, rfl, by decide +kernel, by decide +kernel⟩

def spHo (K : PySem.W.Frag) : Sp := fun vs H Q _ => ∃ (s : Addr) (v : V) (us : List V) (S : List Vc) (x : Vc) (n lo E X : Nat), vs = [.ref s, v] ∧ SqT K H s us ∧ Rws H n us S ∧ Rw H n v x ∧ n ≤ 100 ∧ Ech n lo S ∧ Pos n S ∧
  (∀ g ∈ S, Bd E g) ∧ (∀ g ∈ S, Sz 9000 (g (pvt n g))) ∧ Bd X x ∧ E ≤ 440000 ∧ X + S.length * E ≤ 440000 ∧ ∀ H', Same H H' → Q (.bl (!decide (pvt n (rst n S x) < n))) H'
theorem cal_ho (D : Dn K mg "holds" s_holds ["space", "x"]) (B : Bl mg) (c_rest : Cal P w K mg base "rest" 2 ["space", "x"] (spRest K)) : Cal P w K mg base "holds" 3 ["space", "x"] (spHo K) := by
  refine D.cal sc_holds (fun vs H Q E h => by obtain ⟨s, v, us, S, x, n, lo, E, X, rfl, _⟩ := h; rfl) (fun fa cdv A outer s H vs Q E hr h => ?_)
  obtain ⟨s, v, us, S, x, n, lo, E, X, rfl, h1, h2, h3, hn, h4, h5, h6, h7, h8, h9, h10, k⟩ := h
  refine ⟨_, (pss_one (ps_ret (pe_not (pe_callB (cr_anyI rfl) rfl B.any (by decide +kernel) (pa_cons (pe_cal c_rest (hr.mono (by decide)) rfl (pa_cons (pv 0) (pa_cons (pv 1) pa_nil))) pa_nil))))), ?_⟩
  walk_at "rd"
  refine ⟨s, v, us, S, x, n, lo, E, X, rfl, h1, h2, h3, hn, h4, h5, h6, h7, h8, h9, h10, ?_⟩
  rintro r H1 s1 ⟨p, rfl, hp⟩
  refine ⟨p, rfl, _, .inr (SqT.of hp), ?_⟩
  rw [any_mk]
  exact k H1 s1
end

local macro_rules | `(tactic| walk_at "rd") => `(tactic| simp (maxSteps := 2000000) only [CB.rd_var, CB.rd_C, CB.rd_op, CB.rd_un, CB.rd_I, CB.rd_I0, CB.rd_U, CB.rd_Eq, CB.rd_Ne, CB.rd_test, CB.rd_B, CB.rd_and, CB.rd_or, CB.rd_not, CB.rd_andV, CB.rd_orV, CB.rd_notV, CB.rd_if, CB.rd_chain, CB.rd_chain3,
  CB.rd_next, CB.rd_seq, CB.rd_drop, CB.rd_ret, CB.rd_retN, CB.rd_break, CB.rd_cont, CB.rd_ifS, CB.rd_asg, CB.rd_name, CB.rd_gsub, CB.rd_gtup, CB.rd_gcons, CB.rd_gnil, CB.rd_par, CB.rd_aug, CB.rd_ipI, CB.rd_nil, CB.rd_cons, CB.rd_tup, CB.rd_lst, CB.rd_CB, CB.rd_call, CB.rd_callS, CB.rd_ixL, CB.rd_ixT, CB.rd_setL, CB.rd_putS, CB.rd_forZ, CB.rd_lcZ, CB.rd_forE, CB.rd_forEL, CB.rd_lcE, CB.rd_isqrt, CB.rd_sum, CB.rd_append, CB.rd_forL, CB.rd_forT, CB.rd_forR1, CB.rd_forR2, CB.rd_forR3, CB.rd_lcL, CB.rd_lcT, CB.rd_lcR1, CB.rd_lcR2, CB.rd_yes, CB.rd_sl, CB.rd_noPart, CB.rd_part, CB.rd_slL, CB.rd_wipe0, CB.rd_rep, CB.rd_tupOf, CB.rd_lenS, CB.rd_gcd, CB.rd_wipe1, CB.rd_sorted3, CB.rd_any, CB.rd_all, CB.rd_ext, CB.rd_glst, CB.rd_sortedM, CB.rd_minD, CB.rd_indexD, CB.rd_pop, CB.rd_dnew, CB.rd_dget, CB.rd_dget2, CB.rd_dput, CB.rd_dm, CB.rd_anyI, CB.rd_ixDC, CB.rd_inDC, CB.rd_cat, CB.rd_lcZR, CB.rd_revR1, CB.rd_max2, CB.rd_forRv, CB.rd_ins, CB.rd_revT, CB.rd_listOf, CB.rd_inI, CB.rd_idxI,
  L2.start, List.map_cons, List.map_nil, List.length_cons, List.length_nil, Nat.reduceAdd, Nat.reduceSub, List.replicate_succ, List.replicate_zero,
  V.int.injEq, V.ref.injEq, V.bl.injEq, V.str.injEq, Option.some.injEq, List.cons.injEq, exists_and_left, exists_eq_left', exists_eq_left, reduceCtorEq, false_and, and_false, or_false, false_or, exists_false, exists_const, and_assoc, true_and, and_true,
  CB.scal_int, CB.scal_str, CB.dec_ii, CB.ite_dec, CB.ite_ndec, List.getElem?_cons_zero, List.getElem?_cons_succ, List.set_cons_zero, List.set_cons_succ, List.append_nil, List.cons_append, List.nil_append, if_true, if_false, Bool.false_eq_true, Bool.not_true, Bool.not_false, CB.K_nox, CB.K_cxOf, eq_self])
local macro_rules | `(tactic| walk_at "rs") => `(tactic| simp (maxSteps := 2000000) only [CB.rd_var, CB.rd_C, CB.rd_op, CB.rd_un, CB.rd_I, CB.rd_I0, CB.rd_U, CB.rd_Eq, CB.rd_Ne, CB.rd_test, CB.rd_B, CB.rd_and, CB.rd_or, CB.rd_not, CB.rd_andV, CB.rd_orV, CB.rd_notV, CB.rd_if, CB.rd_chain, CB.rd_chain3,
  CB.rd_next, CB.rd_drop, CB.rd_ret, CB.rd_retN, CB.rd_break, CB.rd_cont, CB.rd_ifS, CB.rd_asg, CB.rd_name, CB.rd_gsub, CB.rd_gtup, CB.rd_gcons, CB.rd_gnil, CB.rd_par, CB.rd_aug, CB.rd_ipI, CB.rd_nil, CB.rd_cons, CB.rd_tup, CB.rd_lst, CB.rd_CB, CB.rd_call, CB.rd_callS, CB.rd_ixL, CB.rd_ixT, CB.rd_setL, CB.rd_putS, CB.rd_forZ, CB.rd_lcZ, CB.rd_forE, CB.rd_forEL, CB.rd_lcE, CB.rd_isqrt, CB.rd_sum, CB.rd_append, CB.rd_forL, CB.rd_forT, CB.rd_forR1, CB.rd_forR2, CB.rd_forR3, CB.rd_lcL, CB.rd_lcT, CB.rd_lcR1, CB.rd_lcR2, CB.rd_yes, CB.rd_sl, CB.rd_noPart, CB.rd_part, CB.rd_slL, CB.rd_wipe0, CB.rd_rep, CB.rd_tupOf, CB.rd_lenS, CB.rd_gcd, CB.rd_wipe1, CB.rd_sorted3, CB.rd_any, CB.rd_all, CB.rd_ext, CB.rd_glst, CB.rd_sortedM, CB.rd_minD, CB.rd_indexD, CB.rd_pop, CB.rd_dnew, CB.rd_dget, CB.rd_dget2, CB.rd_dput, CB.rd_dm, CB.rd_anyI, CB.rd_ixDC, CB.rd_inDC, CB.rd_cat, CB.rd_lcZR, CB.rd_revR1, CB.rd_max2, CB.rd_forRv, CB.rd_ins, CB.rd_revT, CB.rd_listOf, CB.rd_inI, CB.rd_idxI,
  L2.start, List.map_cons, List.map_nil, List.length_cons, List.length_nil, Nat.reduceAdd, Nat.reduceSub, List.replicate_succ, List.replicate_zero,
  V.int.injEq, V.ref.injEq, V.bl.injEq, V.str.injEq, Option.some.injEq, List.cons.injEq, exists_and_left, exists_eq_left', exists_eq_left, reduceCtorEq, false_and, and_false, or_false, false_or, exists_false, exists_const, and_assoc, true_and, and_true,
  CB.scal_int, CB.scal_str, CB.dec_ii, CB.ite_dec, CB.ite_ndec, List.getElem?_cons_zero, List.getElem?_cons_succ, List.set_cons_zero, List.set_cons_succ, List.append_nil, List.cons_append, List.nil_append, if_true, if_false, Bool.false_eq_true, Bool.not_true, Bool.not_false, CB.K_nox, CB.K_cxOf, eq_self])

local macro_rules | `(tactic| walk_at "nx") => `(tactic| (show tSeq _ _ _ _ _; rw [CB.rd_seq]; walk_at "rs"))


section
variable {P : Program} {w : World} {K : PySem.W.Frag} {mg : Str → Option Value} {base : Heap} {CM CR aU a1 a2 : Addr}
theorem sqT_ty {H : Hp} {a : Addr} {xs : List V} (h : SqT K H a xs) : TyX K H (.ref a) (.type "tuple") := by
  rcases h with (h | ⟨o, h⟩) | ⟨o, its, n, e, c, _⟩
  · exact .base (.tup h)
  · exact .fTuple h
  · exact .kTuple e c
/-! ### rows of rows as data -/
def dRs (rs : List (List Int)) : PyData := .tuple (rs.map dIs)
theorem eqvAll_rows : ∀ xs ys : List (List Int), PyData.eqvAll (xs.map dIs) (ys.map dIs) = decide (xs = ys)
  | [], [] => rfl
  | [], _ :: _ => rfl
  | _ :: _, [] => rfl
  | x :: xs, y :: ys => by
    show (PyData.eqv (dIs x) (dIs y) && PyData.eqvAll (xs.map dIs) (ys.map dIs)) = _
    rw [eqvAll_rows xs ys, eqv_ints]
    by_cases h1 : x = y
    · by_cases h2 : xs = ys
      · simp [h1, h2]
      · simp [h2]
    · simp [h1]
theorem eqv_rows (xs ys : List (List Int)) : PyData.eqv (dRs xs) (dRs ys) = decide (xs = ys) := eqvAll_rows xs ys
theorem lay_rows : ∀ ts : List (List Int), PyData.canLayAll0 (ts.map dIs) = true
  | [] => rfl
  | t :: ts => by
    show (PyData.canLay0 (dIs t) && PyData.canLayAll0 (ts.map dIs)) = true
    rw [lay_rows ts, show PyData.canLay0 (dIs t) = true from lay_ints t]
    rfl
theorem depth_rows : ∀ ts : List (List Int), PyData.depthAll (ts.map dIs) ≤ 2
  | [] => by decide
  | t :: ts => by
    have := depth_rows ts
    show max (PyData.depth (dIs t)) (PyData.depthAll (ts.map dIs)) ≤ 2
    have e : PyData.depth (dIs t) ≤ 2 := by
      have := depth_ints t
      show PyData.depthAll (t.map PyData.int) + 1 ≤ 2
      omega
    omega
theorem shaped_rows (ts : List (List Int)) : SeqAt.shaped (dRs ts) = true := by
  unfold SeqAt.shaped dRs
  have a : PyData.canLay0 (.tuple (ts.map dIs)) = true := lay_rows ts
  have b : PyData.depth (.tuple (ts.map dIs)) ≤ 64 := by
    have := depth_rows ts
    show PyData.depthAll (ts.map dIs) + 1 ≤ 64
    omega
  rw [a, decide_eq_true b]
  rfl
def rL (n : Nat) (fs : List Vc) : List (List Int) := fs.map (mk n)
theorem dp_rows {n : Nat} {H : Hp} {vs : List V} {fs : List Vc} (h : Rws H n vs fs) : DpAll K H vs ((rL n fs).map dIs) := by
  induction h with
  | nil => exact .nil
  | @cons v f vs fs a _ ih =>
    obtain ⟨p, rfl, hp⟩ := a
    exact .cons (dp_I hp) ih
theorem dp_Rs {n : Nat} {H : Hp} {r : Addr} {vs : List V} {fs : List Vc} (hr : SqT K H r vs) (h : Rws H n vs fs) : Dp K H (.ref r) (dRs (rL n fs)) := .tup hr (dp_rows h)
theorem rL_inj {n : Nat} : ∀ {fs gs : List Vc}, (∀ f ∈ fs, Sup n f) → (∀ g ∈ gs, Sup n g) → rL n fs = rL n gs → fs = gs
  | [], [], _, _, _ => rfl
  | [], _ :: _, _, _, h => by cases h
  | _ :: _, [], _, _, h => by cases h
  | f :: fs, g :: gs, hf, hg, h => by
    have h' : mk n f :: rL n fs = mk n g :: rL n gs := h
    have h1 := (List.cons.inj h').1
    have h2 := (List.cons.inj h').2
    rw [mk_inj h1 (hf f List.mem_cons_self) (hg g List.mem_cons_self), rL_inj (fun x hx => hf x (List.mem_cons_of_mem _ hx)) (fun x hx => hg x (List.mem_cons_of_mem _ hx)) h2]
/-! ### the law's own looks at values -/
abbrev s__law_inner : Stmt := top 22
theorem sc__law_inner : FnScope ["value", "item"] ["value"] (defScope s__law_inner) := ⟨rfl, rfl, rfl, by decide +kernel, rfl, by decide +kernel, by decide +kernel⟩

def spInn : Sp := fun vs H Q _ => ∃ n : Int, vs = [.int n] ∧ Q (.int n) H
theorem cal_inn (D : Dn K mg "_law_inner" s__law_inner ["value"]) (B : Bl mg) : Cal P w K mg base "_law_inner" 1 ["value"] spInn := by
  refine D.cal sc__law_inner (fun vs H Q E h => ?_) (fun f cdv A outer s H vs Q E hr h => ?_)
  · obtain ⟨n, rfl, _⟩ := h
    rfl
  · obtain ⟨n, rfl, q⟩ := h
    refine ⟨_, (pss_cons (ps_if (pt_val (pe_callB call_isi rfl B.isinstance (by decide +kernel) (pa_cons (pv 0) (pa_cons (pe_bltn (v := .ty "tuple") rfl B.tuple boot_tuple rfl) pa_nil)))) pss_never pss_nil)
  (pss_cons (ps_if (PW.pt (pw_or (pt_cmpR op_isN (pv 0) pe_non (nomark _)) (pw_or (pt_val (pe_callB call_isi rfl B.isinstance (by decide +kernel) (pa_cons (pv 0) (pa_cons (pe_bltn (v := .ty "str") rfl B.str boot_str rfl) pa_nil)))) (pw_or1 (PW.pt (pw_and (pt_val (pe_callB call_isi rfl B.isinstance (by decide +kernel) (pa_cons (pv 0) (pa_cons (pe_bltn (v := .ty "int") rfl B.int boot_int rfl) pa_nil)))) (pw_and1 (pt_not (pt_val (pe_callB call_isi rfl B.isinstance (by decide +kernel) (pa_cons (pv 0) (pa_cons (pe_bltn (v := .ty "bool") rfl B.bool boot_bool rfl) pa_nil)))))))))))) (pss_one (ps_ret (pv 0))) pss_nil)
  (pss_one (ps_ret pe_str)))), ?_⟩
    walk_at "rd"
    refine isi_mk (.base (.int n)) (b := false) (by decide +kernel) ⟨false, rfl, ?_⟩
    rw [if_neg Bool.false_ne_true]
    refine isi_mk (.base (.int n)) (b := false) (by decide +kernel) ⟨false, rfl, ?_⟩
    rw [if_neg Bool.false_ne_true]
    refine isi_mk (.base (.int n)) (b := true) (by decide +kernel) ⟨true, rfl, ?_⟩
    rw [if_pos rfl]
    refine isi_mk (.base (.int n)) (b := false) (by decide +kernel) ⟨false, rfl, ?_⟩
    rw [if_pos (by decide)]
    exact q
def spInnT (K : PySem.W.Frag) : Sp := fun vs H Q _ => ∃ (r : Addr) (ns : List Int), vs = [.ref r] ∧ SqT K H r (ns.map V.int) ∧ ns.length ≤ 100 ∧ ∀ p H', Same H H' → H p = none → H' p = some (.tup (ns.map V.int)) → Q (.ref p) H'
theorem cal_innT (D : Dn K mg "_law_inner" s__law_inner ["value"]) (B : Bl mg) (c__law_inner : Cal P w K mg base "_law_inner" 1 ["value"] spInn) : Cal P w K mg base "_law_inner" 2 ["value"] (spInnT K) := by
  refine D.cal sc__law_inner (fun vs H Q E h => ?_) (fun f cdv A outer s H vs Q E hr h => ?_)
  · obtain ⟨r, ns, rfl, _⟩ := h
    rfl
  · obtain ⟨r, ns, rfl, ht, hl, q⟩ := h
    refine ⟨_, (pss_cons (ps_if (pt_val (pe_callB call_isi rfl B.isinstance (by decide +kernel) (pa_cons (pv 0) (pa_cons (pe_bltn (v := .ty "tuple") rfl B.tuple boot_tuple rfl) pa_nil)))) (pss_one (ps_ret (pe_callTy cr_tupOf rfl B.tuple boot_tuple (pa_cons (pe_lc (own := [("item", 1)]) rfl sc__law_inner.nd (pi_tup (pv 0)) (blkOk_by (N := ["value", "item"]) (sc := defScope s__law_inner) (own := [("item", 1)]) (by decide +kernel)) (fun _ _ _ _ _ => (pg_name (i := 1) sc__law_inner.nd rfl (Or.inl rfl))) (fun _ _ _ _ _ => pts_nil) (fun _ _ _ _ _ => (pe_cal c__law_inner (hr.mono (by decide)) rfl (pa_cons (pv 1) pa_nil)))) pa_nil)))) pss_nil)
  (pss_cons (ps_if (PW.pt (pw_or (pt_cmpR op_isN (pv 0) pe_non (nomark _)) (pw_or (pt_val (pe_callB call_isi rfl B.isinstance (by decide +kernel) (pa_cons (pv 0) (pa_cons (pe_bltn (v := .ty "str") rfl B.str boot_str rfl) pa_nil)))) (pw_or1 (PW.pt (pw_and (pt_val (pe_callB call_isi rfl B.isinstance (by decide +kernel) (pa_cons (pv 0) (pa_cons (pe_bltn (v := .ty "int") rfl B.int boot_int rfl) pa_nil)))) (pw_and1 (pt_not (pt_val (pe_callB call_isi rfl B.isinstance (by decide +kernel) (pa_cons (pv 0) (pa_cons (pe_bltn (v := .ty "bool") rfl B.bool boot_bool rfl) pa_nil)))))))))))) (pss_one (ps_ret (pv 0))) pss_nil)
  (pss_one (ps_ret pe_str)))), ?_⟩
    walk_at "rd"
    refine isi_mk (sqT_ty ht) (b := true) (by decide +kernel) ⟨true, rfl, ?_⟩
    rw [if_pos rfl]
    refine ⟨⟨_, ht⟩, LcT.p (xs := ns.map V.int) (fun i => (ns[i]?).map V.int) (by rw [List.length_map]; omega) (fun H1 s1 => sqT_same s1 ht) ?_ ?_⟩
    · intro i x hx H1 s1 M S hM hS
      obtain ⟨a, rfl, ha⟩ := ints_at hx
      walk_at "rd"
      exact ⟨a, rfl, hM _ _ (by rw [ha]; rfl) (Same.refl _)⟩
    · intro D' H1 nD s1 hD
      have e : (List.range (ns.map V.int).length).filterMap (fun i => (ns[i]?).map V.int) = ns.map V.int := by
        have := fm_get ns (fun x => some (V.int x))
        rw [List.filterMap_eq_map'] at this
        rw [List.length_map]
        refine Eq.trans (congrArg (fun g => List.filterMap g (List.range ns.length)) (funext fun i => ?_)) this
        cases ns[i]? <;> rfl
      rw [e] at hD
      walk_at "rd"
      exact tup_end hD fun r nr => q r _ (s1.trans (same_upd nr)) (s1.free nr) upd_same
def spInnR (K : PySem.W.Frag) : Sp := fun vs H Q _ => ∃ (r : Addr) (us : List V) (fs : List Vc) (n : Nat), vs = [.ref r] ∧ SqT K H r us ∧ Rws H n us fs ∧ us.length ≤ 100 ∧ n ≤ 100 ∧ ∀ p zs H', Same H H' → H' p = some (.tup zs) → Rws H' n zs fs → Q (.ref p) H'
def spPl (K : PySem.W.Frag) : Sp := fun vs H Q E => spInn vs H Q E ∨ spInnT K vs H Q E ∨ spInnR K vs H Q E
theorem cal_innC (D : Dn K mg "_law_inner" s__law_inner ["value"]) (B : Bl mg) (c1 : Cal P w K mg base "_law_inner" 1 ["value"] spInn) (c2 : Cal P w K mg base "_law_inner" 2 ["value"] (spInnT K)) : Cal P w K mg base "_law_inner" 3 ["value"] (spPl K) := by
  refine D.cal sc__law_inner (fun vs H Q E h => ?_) (fun f cdv A outer s H vs Q E hr h => ?_)
  · rcases h with ⟨n, rfl, _⟩ | ⟨r, ns, rfl, _⟩ | ⟨r, us, fs, n, rfl, _⟩ <;> rfl
  rcases h with h | h | h
  · obtain ⟨n, rfl, q⟩ := h
    refine ⟨_, (pss_cons (ps_if (pt_val (pe_callB call_isi rfl B.isinstance (by decide +kernel) (pa_cons (pv 0) (pa_cons (pe_bltn (v := .ty "tuple") rfl B.tuple boot_tuple rfl) pa_nil)))) pss_never pss_nil)
  (pss_cons (ps_if (PW.pt (pw_or (pt_cmpR op_isN (pv 0) pe_non (nomark _)) (pw_or (pt_val (pe_callB call_isi rfl B.isinstance (by decide +kernel) (pa_cons (pv 0) (pa_cons (pe_bltn (v := .ty "str") rfl B.str boot_str rfl) pa_nil)))) (pw_or1 (PW.pt (pw_and (pt_val (pe_callB call_isi rfl B.isinstance (by decide +kernel) (pa_cons (pv 0) (pa_cons (pe_bltn (v := .ty "int") rfl B.int boot_int rfl) pa_nil)))) (pw_and1 (pt_not (pt_val (pe_callB call_isi rfl B.isinstance (by decide +kernel) (pa_cons (pv 0) (pa_cons (pe_bltn (v := .ty "bool") rfl B.bool boot_bool rfl) pa_nil)))))))))))) (pss_one (ps_ret (pv 0))) pss_nil)
  (pss_one (ps_ret pe_str)))), ?_⟩
    walk_at "rd"
    refine isi_mk (.base (.int n)) (b := false) (by decide +kernel) ⟨false, rfl, ?_⟩
    rw [if_neg Bool.false_ne_true]
    refine isi_mk (.base (.int n)) (b := false) (by decide +kernel) ⟨false, rfl, ?_⟩
    rw [if_neg Bool.false_ne_true]
    refine isi_mk (.base (.int n)) (b := true) (by decide +kernel) ⟨true, rfl, ?_⟩
    rw [if_pos rfl]
    refine isi_mk (.base (.int n)) (b := false) (by decide +kernel) ⟨false, rfl, ?_⟩
    rw [if_pos (by decide)]
    exact q
  · have c__law_inner := c1
    obtain ⟨r, ns, rfl, ht, hl, q⟩ := h
    refine ⟨_, (pss_cons (ps_if (pt_val (pe_callB call_isi rfl B.isinstance (by decide +kernel) (pa_cons (pv 0) (pa_cons (pe_bltn (v := .ty "tuple") rfl B.tuple boot_tuple rfl) pa_nil)))) (pss_one (ps_ret (pe_callTy cr_tupOf rfl B.tuple boot_tuple (pa_cons (pe_lc (own := [("item", 1)]) rfl sc__law_inner.nd (pi_tup (pv 0)) (blkOk_by (N := ["value", "item"]) (sc := defScope s__law_inner) (own := [("item", 1)]) (by decide +kernel)) (fun _ _ _ _ _ => (pg_name (i := 1) sc__law_inner.nd rfl (Or.inl rfl))) (fun _ _ _ _ _ => pts_nil) (fun _ _ _ _ _ => (pe_cal c__law_inner (hr.mono (by decide)) rfl (pa_cons (pv 1) pa_nil)))) pa_nil)))) pss_nil)
  (pss_cons (ps_if (PW.pt (pw_or (pt_cmpR op_isN (pv 0) pe_non (nomark _)) (pw_or (pt_val (pe_callB call_isi rfl B.isinstance (by decide +kernel) (pa_cons (pv 0) (pa_cons (pe_bltn (v := .ty "str") rfl B.str boot_str rfl) pa_nil)))) (pw_or1 (PW.pt (pw_and (pt_val (pe_callB call_isi rfl B.isinstance (by decide +kernel) (pa_cons (pv 0) (pa_cons (pe_bltn (v := .ty "int") rfl B.int boot_int rfl) pa_nil)))) (pw_and1 (pt_not (pt_val (pe_callB call_isi rfl B.isinstance (by decide +kernel) (pa_cons (pv 0) (pa_cons (pe_bltn (v := .ty "bool") rfl B.bool boot_bool rfl) pa_nil)))))))))))) (pss_one (ps_ret (pv 0))) pss_nil)
  (pss_one (ps_ret pe_str)))), ?_⟩
    walk_at "rd"
    refine isi_mk (sqT_ty ht) (b := true) (by decide +kernel) ⟨true, rfl, ?_⟩
    rw [if_pos rfl]
    refine ⟨⟨_, ht⟩, LcT.p (xs := ns.map V.int) (fun i => (ns[i]?).map V.int) (by rw [List.length_map]; omega) (fun H1 s1 => sqT_same s1 ht) ?_ ?_⟩
    · intro i x hx H1 s1 M S hM hS
      obtain ⟨a, rfl, ha⟩ := ints_at hx
      walk_at "rd"
      exact ⟨a, rfl, hM _ _ (by rw [ha]; rfl) (Same.refl _)⟩
    · intro D' H1 nD s1 hD
      have e : (List.range (ns.map V.int).length).filterMap (fun i => (ns[i]?).map V.int) = ns.map V.int := by
        have := fm_get ns (fun x => some (V.int x))
        rw [List.filterMap_eq_map'] at this
        rw [List.length_map]
        refine Eq.trans (congrArg (fun g => List.filterMap g (List.range ns.length)) (funext fun i => ?_)) this
        cases ns[i]? <;> rfl
      rw [e] at hD
      walk_at "rd"
      exact tup_end hD fun r nr => q r _ (s1.trans (same_upd nr)) (s1.free nr) upd_same
  · have c__law_inner := c2
    obtain ⟨r, us, fs, n, rfl, ht, hR, hl, hn, q⟩ := h
    refine ⟨_, (pss_cons (ps_if (pt_val (pe_callB call_isi rfl B.isinstance (by decide +kernel) (pa_cons (pv 0) (pa_cons (pe_bltn (v := .ty "tuple") rfl B.tuple boot_tuple rfl) pa_nil)))) (pss_one (ps_ret (pe_callTy cr_tupOf rfl B.tuple boot_tuple (pa_cons (pe_lc (own := [("item", 1)]) rfl sc__law_inner.nd (pi_tup (pv 0)) (blkOk_by (N := ["value", "item"]) (sc := defScope s__law_inner) (own := [("item", 1)]) (by decide +kernel)) (fun _ _ _ _ _ => (pg_name (i := 1) sc__law_inner.nd rfl (Or.inl rfl))) (fun _ _ _ _ _ => pts_nil) (fun _ _ _ _ _ => (pe_cal c__law_inner (hr.mono (by decide)) rfl (pa_cons (pv 1) pa_nil)))) pa_nil)))) pss_nil)
  (pss_cons (ps_if (PW.pt (pw_or (pt_cmpR op_isN (pv 0) pe_non (nomark _)) (pw_or (pt_val (pe_callB call_isi rfl B.isinstance (by decide +kernel) (pa_cons (pv 0) (pa_cons (pe_bltn (v := .ty "str") rfl B.str boot_str rfl) pa_nil)))) (pw_or1 (PW.pt (pw_and (pt_val (pe_callB call_isi rfl B.isinstance (by decide +kernel) (pa_cons (pv 0) (pa_cons (pe_bltn (v := .ty "int") rfl B.int boot_int rfl) pa_nil)))) (pw_and1 (pt_not (pt_val (pe_callB call_isi rfl B.isinstance (by decide +kernel) (pa_cons (pv 0) (pa_cons (pe_bltn (v := .ty "bool") rfl B.bool boot_bool rfl) pa_nil)))))))))))) (pss_one (ps_ret (pv 0))) pss_nil)
  (pss_one (ps_ret pe_str)))), ?_⟩
    walk_at "rd"
    refine isi_mk (sqT_ty ht) (b := true) (by decide +kernel) ⟨true, rfl, ?_⟩
    rw [if_pos rfl]
    have lR := hR.len
    refine ⟨⟨_, ht⟩, LcT.w (xs := us) (fun i D zs H3 => zs.length = i ∧ Rws H3 n zs (fs.take i) ∧ Same H H3 ∧ H3 D = some (.lst zs) ∧ H D = none) (fun D nD => ⟨rfl, .nil, same_upd nD, upd_same, nD⟩) ?_ ?_ ?_⟩
    · rintro D i zs H3 _ ⟨_, _, sm, _, _⟩
      exact sqT_same sm ht
    · rintro D i v zs H3 hv ⟨lz, hz, sm, hD, nD⟩ N hN
      obtain ⟨f, hf, pf, rfl, hpf⟩ := (hR.same sm).get hv
      have hi : i < us.length := (List.getElem?_eq_some_iff.mp hv).1
      walk_at "rd"
      refine ⟨pf, mk n f, rfl, SqT.of hpf, by rw [mk_len]; exact hn, fun p H4 s4 n4 h4 => ⟨_, s4 _ _ hD, small_size (by omega), hN (zs ++ [.ref p]) _ ⟨by rw [List.length_append, lz]; rfl, ?_, same_at (sm.trans s4) nD, upd_same, nD⟩⟩⟩
      rw [List.take_add_one, hf]
      exact ((hz.same s4).updL (s4 _ _ hD)).app (.cons (Rw.updL ⟨p, rfl, h4⟩ (s4 _ _ hD)) .nil)
    · rintro D zs H3 nD ⟨lz, hz, sm, hD, _⟩
      rw [lR, List.take_length] at hz
      try walk_at "rd"
      exact ⟨_, .inl ⟨SqL.of hD, fun l nl => q l zs _ (sm.trans (same_upd nl)) upd_same (hz.same (same_upd nl))⟩⟩
abbrev s__law_plain : Stmt := top 23
theorem sc__law_plain : FnScope ["value"] ["value"] (defScope s__law_plain) := ⟨rfl, rfl, rfl, by decide +kernel, rfl, by decide +kernel, by decide +kernel⟩

theorem cal_plC (D : Dn K mg "_law_plain" s__law_plain ["value"]) (B : Bl mg) (c__law_inner : Cal P w K mg base "_law_inner" 3 ["value"] (spPl K)) : Cal P w K mg base "_law_plain" 4 ["value"] (spPl K) := by
  refine D.cal sc__law_plain (fun vs H Q E h => ?_) (fun f cdv A outer s H vs Q E hr h => ?_)
  · rcases h with ⟨n, rfl, _⟩ | ⟨r, ns, rfl, _⟩ | ⟨r, us, fs, n, rfl, _⟩ <;> rfl
  have h2 := h
  rcases h with ⟨n, rfl, q⟩ | ⟨r, ns, rfl, ht, hl, q⟩ | ⟨r, us, fs, n, rfl, ht, hR, hl, hn, q⟩
  · refine ⟨_, (pss_one (ps_ret (pe_ifExp (pt_val (pe_callB call_isi rfl B.isinstance (by decide +kernel) (pa_cons (pv 0) (pa_cons (pe_bltn (v := .ty "str") rfl B.str boot_str rfl) pa_nil)))) pe_str (pe_cal c__law_inner (hr.mono (by decide)) rfl (pa_cons (pv 0) pa_nil))))), ?_⟩
    walk_at "rd"
    refine isi_mk (.base (.int n)) (b := false) (by decide +kernel) ⟨false, rfl, ?_⟩
    rw [if_neg Bool.false_ne_true]
    exact h2
  · refine ⟨_, (pss_one (ps_ret (pe_ifExp (pt_val (pe_callB call_isi rfl B.isinstance (by decide +kernel) (pa_cons (pv 0) (pa_cons (pe_bltn (v := .ty "str") rfl B.str boot_str rfl) pa_nil)))) pe_str (pe_cal c__law_inner (hr.mono (by decide)) rfl (pa_cons (pv 0) pa_nil))))), ?_⟩
    walk_at "rd"
    refine isi_mk (sqT_ty ht) (b := false) (by decide +kernel) ⟨false, rfl, ?_⟩
    rw [if_neg Bool.false_ne_true]
    exact h2
  · refine ⟨_, (pss_one (ps_ret (pe_ifExp (pt_val (pe_callB call_isi rfl B.isinstance (by decide +kernel) (pa_cons (pv 0) (pa_cons (pe_bltn (v := .ty "str") rfl B.str boot_str rfl) pa_nil)))) pe_str (pe_cal c__law_inner (hr.mono (by decide)) rfl (pa_cons (pv 0) pa_nil))))), ?_⟩
    walk_at "rd"
    refine isi_mk (sqT_ty ht) (b := false) (by decide +kernel) ⟨false, rfl, ?_⟩
    rw [if_neg Bool.false_ne_true]
    exact h2
end

section
variable {P : Program} {w : World} {K : PySem.W.Frag} {mg : Str → Option Value} {base : Heap} {CM CR aU a1 a2 : Addr}
abbrev s__law_says : Stmt := top 24
theorem sc__law_says : FnScope ["value", "due"] ["value", "due"] (defScope s__law_says) := ⟨rfl, rfl, rfl, by decide +kernel, rfl, by decide +kernel, by decide +kernel⟩

def spSays : Sp := fun vs H Q _ => ∃ a b : Bool, vs = [.bl a, .bl b] ∧ Q (.bl (decide (a = b))) H
theorem cal_says (D : Dn K mg "_law_says" s__law_says ["value", "due"]) (B : Bl mg) : Cal P w K mg base "_law_says" 1 ["value", "due"] spSays := by
  refine D.cal sc__law_says (fun vs H Q E h => ?_) (fun f cdv A outer s H vs Q E hr h => ?_)
  · obtain ⟨a, b, rfl, _⟩ := h
    rfl
  · obtain ⟨a, b, rfl, q⟩ := h
    refine ⟨_, (pss_one (ps_ret (pe_and (pe_callB call_isi rfl B.isinstance (by decide +kernel) (pa_cons (pv 0) (pa_cons (pe_bltn (v := .ty "bool") rfl B.bool boot_bool rfl) pa_nil))) (pe_one (pe_cmpR op_eq (pv 0) (pv 1) (nomark _)))))), ?_⟩
    walk_at "rd"
    refine isi_mk (.base (.bl a)) (b := true) (by decide +kernel) ⟨true, rfl, ?_⟩
    rw [if_pos rfl]
    exact ⟨by simp [scal], q⟩
end

local macro_rules | `(tactic| walk_at "rd") => `(tactic| simp (maxSteps := 2000000) only [CB.rd_var, CB.rd_C, CB.rd_op, CB.rd_un, CB.rd_I, CB.rd_I0, CB.rd_U, CB.rd_Eq, CB.rd_Ne, CB.rd_test, CB.rd_B, CB.rd_and, CB.rd_or, CB.rd_not, CB.rd_andV, CB.rd_orV, CB.rd_notV, CB.rd_if, CB.rd_chain, CB.rd_chain3,
  CB.rd_next, CB.rd_seq, CB.rd_drop, CB.rd_ret, CB.rd_retN, CB.rd_break, CB.rd_cont, CB.rd_ifS, CB.rd_asg, CB.rd_name, CB.rd_gsub, CB.rd_gtup, CB.rd_gcons, CB.rd_gnil, CB.rd_par, CB.rd_aug, CB.rd_ipI, CB.rd_nil, CB.rd_cons, CB.rd_tup, CB.rd_lst, CB.rd_CB, CB.rd_call, CB.rd_callS, CB.rd_ixL, CB.rd_ixT, CB.rd_setL, CB.rd_putS, CB.rd_forZ, CB.rd_lcZ, CB.rd_forE, CB.rd_forEL, CB.rd_lcE, CB.rd_isqrt, CB.rd_sum, CB.rd_append, CB.rd_forL, CB.rd_forT, CB.rd_forR1, CB.rd_forR2, CB.rd_forR3, CB.rd_lcL, CB.rd_lcT, CB.rd_lcR1, CB.rd_lcR2, CB.rd_yes, CB.rd_sl, CB.rd_noPart, CB.rd_part, CB.rd_slL, CB.rd_wipe0, CB.rd_rep, CB.rd_tupOf, CB.rd_lenS, CB.rd_gcd, CB.rd_wipe1, CB.rd_sorted3, CB.rd_any, CB.rd_all, CB.rd_ext, CB.rd_glst, CB.rd_sortedM, CB.rd_minD, CB.rd_indexD, CB.rd_pop, CB.rd_dnew, CB.rd_dget, CB.rd_dget2, CB.rd_dput, CB.rd_dm, CB.rd_anyI, CB.rd_ixDC, CB.rd_inDC, CB.rd_cat, CB.rd_lcZR, CB.rd_revR1, CB.rd_max2, CB.rd_forRv, CB.rd_ins, CB.rd_revT, CB.rd_listOf, CB.rd_inI, CB.rd_idxI,
  L2.start, List.map_cons, List.map_nil, List.length_cons, List.length_nil, Nat.reduceAdd, Nat.reduceSub, List.replicate_succ, List.replicate_zero,
  V.int.injEq, V.ref.injEq, V.bl.injEq, V.str.injEq, Option.some.injEq, List.cons.injEq, exists_and_left, exists_eq_left', exists_eq_left, reduceCtorEq, false_and, and_false, or_false, false_or, exists_false, exists_const, and_assoc, true_and, and_true,
  CB.scal_int, CB.scal_str, CB.dec_ii, CB.ite_dec, CB.ite_ndec, List.getElem?_cons_zero, List.getElem?_cons_succ, List.set_cons_zero, List.set_cons_succ, List.append_nil, List.cons_append, List.nil_append, if_true, if_false, Bool.false_eq_true, Bool.not_true, Bool.not_false, CB.K_nox, CB.K_cxOf, eq_self])
local macro_rules | `(tactic| walk_at "rs") => `(tactic| simp (maxSteps := 2000000) only [CB.rd_var, CB.rd_C, CB.rd_op, CB.rd_un, CB.rd_I, CB.rd_I0, CB.rd_U, CB.rd_Eq, CB.rd_Ne, CB.rd_test, CB.rd_B, CB.rd_and, CB.rd_or, CB.rd_not, CB.rd_andV, CB.rd_orV, CB.rd_notV, CB.rd_if, CB.rd_chain, CB.rd_chain3,
  CB.rd_next, CB.rd_drop, CB.rd_ret, CB.rd_retN, CB.rd_break, CB.rd_cont, CB.rd_ifS, CB.rd_asg, CB.rd_name, CB.rd_gsub, CB.rd_gtup, CB.rd_gcons, CB.rd_gnil, CB.rd_par, CB.rd_aug, CB.rd_ipI, CB.rd_nil, CB.rd_cons, CB.rd_tup, CB.rd_lst, CB.rd_CB, CB.rd_call, CB.rd_callS, CB.rd_ixL, CB.rd_ixT, CB.rd_setL, CB.rd_putS, CB.rd_forZ, CB.rd_lcZ, CB.rd_forE, CB.rd_forEL, CB.rd_lcE, CB.rd_isqrt, CB.rd_sum, CB.rd_append, CB.rd_forL, CB.rd_forT, CB.rd_forR1, CB.rd_forR2, CB.rd_forR3, CB.rd_lcL, CB.rd_lcT, CB.rd_lcR1, CB.rd_lcR2, CB.rd_yes, CB.rd_sl, CB.rd_noPart, CB.rd_part, CB.rd_slL, CB.rd_wipe0, CB.rd_rep, CB.rd_tupOf, CB.rd_lenS, CB.rd_gcd, CB.rd_wipe1, CB.rd_sorted3, CB.rd_any, CB.rd_all, CB.rd_ext, CB.rd_glst, CB.rd_sortedM, CB.rd_minD, CB.rd_indexD, CB.rd_pop, CB.rd_dnew, CB.rd_dget, CB.rd_dget2, CB.rd_dput, CB.rd_dm, CB.rd_anyI, CB.rd_ixDC, CB.rd_inDC, CB.rd_cat, CB.rd_lcZR, CB.rd_revR1, CB.rd_max2, CB.rd_forRv, CB.rd_ins, CB.rd_revT, CB.rd_listOf, CB.rd_inI, CB.rd_idxI,
  L2.start, List.map_cons, List.map_nil, List.length_cons, List.length_nil, Nat.reduceAdd, Nat.reduceSub, List.replicate_succ, List.replicate_zero,
  V.int.injEq, V.ref.injEq, V.bl.injEq, V.str.injEq, Option.some.injEq, List.cons.injEq, exists_and_left, exists_eq_left', exists_eq_left, reduceCtorEq, false_and, and_false, or_false, false_or, exists_false, exists_const, and_assoc, true_and, and_true,
  CB.scal_int, CB.scal_str, CB.dec_ii, CB.ite_dec, CB.ite_ndec, List.getElem?_cons_zero, List.getElem?_cons_succ, List.set_cons_zero, List.set_cons_succ, List.append_nil, List.cons_append, List.nil_append, if_true, if_false, Bool.false_eq_true, Bool.not_true, Bool.not_false, CB.K_nox, CB.K_cxOf, eq_self])

local macro_rules | `(tactic| walk_at "nx") => `(tactic| (show tSeq _ _ _ _ _; rw [CB.rd_seq]; walk_at "rs"))


/-! ### mixed rows -/
theorem spn_set {L : List Vc} {i j : Nat} {f g : Vc} (c : Int) (hi : L[i]? = some f) (hj : L[j]? = some g) (ne : i ≠ j) :
    (∀ x ∈ L.set i (fun k => f k + c * g k), Spn (Ls L) x) ∧ ∀ x ∈ L, Spn (Ls (L.set i (fun k => f k + c * g k))) x := by
  have lt : i < L.length := (List.getElem?_eq_some_iff.mp hi).1
  have mf : f ∈ L := List.mem_of_getElem? hi
  have mg : g ∈ L := List.mem_of_getElem? hj
  have n1 : (L.set i (fun k => f k + c * g k))[i]? = some (fun k => f k + c * g k) := List.getElem?_set_self lt
  have n2 : (L.set i (fun k => f k + c * g k))[j]? = some g := by rw [List.getElem?_set_ne ne]; exact hj
  refine ⟨fun x hx => ?_, fun x hx => ?_⟩
  · rcases List.mem_or_eq_of_mem_set hx with h | rfl
    · exact spn_mem h
    · exact Spn.plus c (spn_mem mf) (spn_mem mg)
  · obtain ⟨k, hk, e⟩ := List.getElem_of_mem hx
    by_cases h : k = i
    · subst h
      have : x = f := by
        rw [List.getElem?_eq_getElem hk, e] at hi
        exact Option.some.inj hi
      rw [this]
      exact (Spn.plus (-c) (spn_mem (List.mem_of_getElem? n1)) (spn_mem (List.mem_of_getElem? n2))).cast fun i => by
        show f i + c * g i + -c * g i = f i
        grind
    · refine spn_mem (List.mem_of_getElem? (i := k) ?_)
      rw [List.getElem?_set_ne (fun z => h z.symm), List.getElem?_eq_getElem hk, e]
/-- the rows of L and of R span one lattice -/
def Eqv (L R : List Vc) : Prop := (∀ f ∈ L, Spn (Ls R) f) ∧ ∀ f ∈ R, Spn (Ls L) f
theorem Eqv.refl (L : List Vc) : Eqv L L := ⟨fun _ h => spn_mem h, fun _ h => spn_mem h⟩
theorem Eqv.trans {L M R : List Vc} (h : Eqv L M) (h' : Eqv M R) : Eqv L R := ⟨fun f hf => spn_sub (h.1 f hf) h'.1, fun f hf => spn_sub (h'.2 f hf) h.2⟩
theorem Eqv.symm {L R : List Vc} (h : Eqv L R) : Eqv R L := ⟨h.2, h.1⟩
theorem Eqv.set {L : List Vc} {i j : Nat} {f g : Vc} (c : Int) (hi : L[i]? = some f) (hj : L[j]? = some g) (ne : i ≠ j) : Eqv (L.set i (fun k => f k + c * g k)) L := spn_set c hi hj ne
theorem Eqv.ins {L R : List Vc} {g : Vc} (h : Eqv L R) (hg : Spn (Ls R) g) (i : Nat) : Eqv (L.take i ++ [g] ++ L.drop i) R := by
  refine ⟨fun f hf => ?_, fun f hf => spn_sub (h.2 f hf) fun x hx => spn_mem ?_⟩
  · rcases List.mem_append.mp hf with hf | hf
    · rcases List.mem_append.mp hf with hf | hf
      · exact h.1 f (List.mem_of_mem_take hf)
      · rw [List.mem_singleton.mp hf]; exact hg
    · exact h.1 f (List.mem_of_mem_drop hf)
  · rw [← List.take_append_drop i L] at hx
    rcases List.mem_append.mp hx with hx | hx
    · exact List.mem_append_left _ (List.mem_append_left _ hx)
    · exact List.mem_append_right _ hx
theorem bd_mix {b : Nat} {f g : Vc} {c : Int} (hf : Bd b f) (hg : Bd b g) (h1 : -3 ≤ c) (h2 : c ≤ 3) : Bd (b + 2) fun k => f k + c * g k := fun k => by
  have a := hf k
  have d := hg k
  unfold Sz at *
  show (f k + c * g k).natAbs < 2 ^ (b + 2)
  have e : 2 ^ (b + 2) = 4 * 2 ^ b := by rw [Nat.pow_add, Nat.mul_comm]
  have t := Int.natAbs_add_le (f k) (c * g k)
  rw [Int.natAbs_mul] at t
  have u : c.natAbs * (g k).natAbs ≤ 3 * (g k).natAbs := Nat.mul_le_mul_right _ (by omega)
  omega
section
variable {P : Program} {w : World} {K : PySem.W.Frag} {mg : Str → Option Value} {base : Heap} {CM CR : Addr}
/-! #### rows that stand in lists -/
/-- all but the objects in X is kept -/
def Bt (X : List Addr) (H H' : Hp) : Prop := ∀ b o, b ∉ X → H b = some o → H' b = some o
theorem Bt.refl {X : List Addr} {H : Hp} : Bt X H H := fun _ _ _ e => e
theorem Bt.trans {X : List Addr} {H H1 H2 : Hp} (a : Bt X H H1) (b : Bt X H1 H2) : Bt X H H2 := fun c o n e => b c o n (a c o n e)
theorem Bt.of {X : List Addr} {H H' : Hp} (s : Same H H') : Bt X H H' := fun b o _ e => s b o e
theorem Bt.upd {X : List Addr} {H : Hp} {a : Addr} {o : HO} (h : a ∈ X) : Bt X H (upd H a o) := fun b o' n e => by
  rw [upd_ne (fun z => n (by rw [z]; exact h))]
  exact e
theorem Bt.mono {X Y : List Addr} {H H' : Hp} (h : Bt X H H') (s : ∀ a ∈ X, a ∈ Y) : Bt Y H H' := fun b o n e => h b o (fun z => n (s b z)) e
/-- what is new may change -/
theorem Bt.less {X : List Addr} {a : Addr} {H H' : Hp} (h : Bt (a :: X) H H') (n : H a = none) : Bt X H H' := fun b o nb e => h b o (fun z => by
  rcases List.mem_cons.mp z with rfl | z
  · rw [n] at e; cases e
  · exact nb z) e
theorem Rw.bt {X : List Addr} {H H' : Hp} {n : Nat} {v : V} {f : Vc} {l : List V} (h : Rw H n v f) (s : Bt X H H') (hX : ∀ a ∈ X, ∃ l, H a = some (.lst l)) : Rw H' n v f := by
  obtain ⟨p, e, hp⟩ := h
  refine ⟨p, e, s p _ (fun z => ?_) hp⟩
  obtain ⟨l, hl⟩ := hX p z
  rw [hp] at hl; cases hl
def LRw (X : List Addr) (H : Hp) (n : Nat) (v : V) (f : Vc) : Prop := ∃ p, v = .ref p ∧ p ∉ X ∧ H p = some (.lst ((mk n f).map V.int))
inductive LRs (X : List Addr) (H : Hp) (n : Nat) : List V → List Vc → Prop
  | nil : LRs X H n [] []
  | cons {v f vs fs} : LRw X H n v f → LRs X H n vs fs → LRs X H n (v :: vs) (f :: fs)
variable {X : List Addr} {H H' : Hp} {n : Nat} {v : V} {f : Vc} {vs us : List V} {fs gs : List Vc}
theorem LRw.bt (h : LRw X H n v f) (s : Bt X H H') : LRw X H' n v f := by
  obtain ⟨p, e, nX, hp⟩ := h
  exact ⟨p, e, nX, s p _ nX hp⟩
theorem LRs.bt (h : LRs X H n vs fs) (s : Bt X H H') : LRs X H' n vs fs := by
  induction h with
  | nil => exact .nil
  | cons a _ ih => exact .cons (a.bt s) ih
theorem LRs.len (h : LRs X H n vs fs) : vs.length = fs.length := by
  induction h with
  | nil => rfl
  | cons a _ ih => rw [List.length_cons, List.length_cons, ih]
theorem LRs.get (h : LRs X H n vs fs) {i : Nat} (e : vs[i]? = some v) : ∃ f, fs[i]? = some f ∧ LRw X H n v f := by
  induction h generalizing i with
  | nil => simp at e
  | @cons v f vs fs a _ ih =>
    match i, e with
    | 0, e => cases e; exact ⟨f, rfl, a⟩
    | i + 1, e => exact ih e
theorem LRs.at (h : LRs X H n vs fs) {i : Nat} (hi : i < fs.length) : ∃ p f, vs[i]? = some (.ref p) ∧ fs[i]? = some f ∧ p ∉ X ∧ H p = some (.lst ((mk n f).map V.int)) := by
  have hi' : i < vs.length := by rw [h.len]; exact hi
  obtain ⟨f, hf, p, e, nX, hp⟩ := h.get (List.getElem?_eq_getElem hi')
  exact ⟨p, f, by rw [List.getElem?_eq_getElem hi', e], hf, nX, hp⟩
theorem LRs.app (h : LRs X H n vs fs) (h' : LRs X H n us gs) : LRs X H n (vs ++ us) (fs ++ gs) := by
  induction h with
  | nil => exact h'
  | cons a _ ih => exact .cons a ih
theorem LRs.take (h : LRs X H n vs fs) : ∀ i, LRs X H n (vs.take i) (fs.take i) := by
  induction h with
  | nil => intro i; rw [List.take_nil, List.take_nil]; exact .nil
  | cons a b ih =>
    intro i
    match i with
    | 0 => exact .nil
    | i + 1 => exact .cons a (ih i)
theorem LRs.drop (h : LRs X H n vs fs) : ∀ i, LRs X H n (vs.drop i) (fs.drop i) := by
  induction h with
  | nil => intro i; rw [List.drop_nil, List.drop_nil]; exact .nil
  | cons a b ih =>
    intro i
    match i with
    | 0 => exact .cons a b
    | i + 1 => exact ih i
theorem LRs.set (h : LRs X H n vs fs) {v : V} {f : Vc} (hv : LRw X H n v f) : ∀ i, LRs X H n (vs.set i v) (fs.set i f) := by
  induction h with
  | nil => intro i; exact .nil
  | cons a b ih =>
    intro i
    match i with
    | 0 => exact .cons hv b
    | i + 1 => exact .cons a (ih i)
theorem atI_nat {xs : List V} {i : Nat} {x : V} (h : xs[i]? = some x) : atI xs ((i : Nat) : Int) = some x := by
  have hi : i < xs.length := (List.getElem?_eq_some_iff.mp h).1
  unfold atI ixN
  rw [if_pos (by omega), if_pos (show (i : Int) < (xs.length : Int) by omega)]
  show xs[(i : Int).toNat]? = _
  rw [Int.toNat_natCast]
  exact h
theorem ixN_nat {m i : Nat} (h : i < m) : ixN m ((i : Nat) : Int) = some i := by
  unfold ixN
  rw [if_pos (by omega), if_pos (show (i : Int) < (m : Int) by omega), Int.toNat_natCast]
/-- [f(k) for k in range(n)]: the list of a row -/
theorem fm_mk {n : Nat} (f : Vc) : (List.range n).filterMap (fun i => some (V.int (f i))) = (mk n f).map V.int := by rw [fm_some (fun i => V.int (f i)), mk_map]
theorem log_s {m : Int} (h0 : 0 < m) (h : m < 2 ^ 100) : m.natAbs.log2 < 9000 := by
  have : m.natAbs < 2 ^ 100 := by omega
  have := log_lt (k := 99) this
  omega
theorem LRs.mono {X Y : List Addr} {H : Hp} {n : Nat} {vs : List V} {fs : List Vc} (h : LRs X H n vs fs) (s : ∀ a ∈ Y, a ∈ X) : LRs Y H n vs fs := by
  induction h with
  | nil => exact .nil
  | cons a _ ih =>
    obtain ⟨p, e, nX, hp⟩ := a
    exact .cons ⟨p, e, fun z => nX (s p z), hp⟩ ih
end

/-! ### orders modulo a lattice -/
/-- R tells which multiples of h are in the lattice of T -/
def IsOrd (T : List Vc) (h : Vc) (R : Int) : Prop := 0 ≤ R ∧ ∀ k : Int, Spn (Ls T) (fun i => k * h i) ↔ R ∣ k
theorem IsOrd.uniq {T T' : List Vc} {h : Vc} {R R' : Int} (a : IsOrd T h R) (b : IsOrd T' h R') (e : Eqv T T') : R = R' := by
  refine Int.dvd_antisymm a.1 b.1 ?_ ?_
  · exact (a.2 R').mp (spn_sub ((b.2 R').mpr (Int.dvd_refl _)) e.2)
  · exact (b.2 R).mp (spn_sub ((a.2 R).mpr (Int.dvd_refl _)) e.1)
theorem dvd_part {d x k : Int} (hd : 0 < d) : d ∣ k * x ↔ d / (Nat.gcd d.natAbs x.natAbs : Nat) ∣ k := by
  have g0 : 0 < Nat.gcd d.natAbs x.natAbs := Nat.gcd_pos_of_pos_left _ (by omega)
  have d1 : ((Nat.gcd d.natAbs x.natAbs : Nat) : Int) ∣ d := Int.gcd_dvd_left ..
  have d2 : ((Nat.gcd d.natAbs x.natAbs : Nat) : Int) ∣ x := Int.gcd_dvd_right ..
  have cop : Int.gcd (d / (Nat.gcd d.natAbs x.natAbs : Nat)) (x / (Nat.gcd d.natAbs x.natAbs : Nat)) = 1 := Int.gcd_ediv_gcd_ediv_gcd (i := d) (j := x) g0
  obtain ⟨a, ea⟩ := d1
  obtain ⟨b, eb⟩ := d2
  generalize hg : ((Nat.gcd d.natAbs x.natAbs : Nat) : Int) = g at *
  have gp : 0 < g := by omega
  have e1 : d / g = a := by rw [ea]; exact Int.mul_ediv_cancel_left _ (by omega)
  have e2 : x / g = b := by rw [eb]; exact Int.mul_ediv_cancel_left _ (by omega)
  rw [e1, e2] at cop
  rw [e1]
  constructor
  · rintro ⟨c, hc⟩
    have h1 : a ∣ k * b := ⟨c, by
      have : g * (k * b) = g * (a * c) := by
        have : k * x = d * c := hc
        rw [ea, eb] at this
        grind
      exact Int.eq_of_mul_eq_mul_left (by omega) this⟩
    have h2 := Int.natAbs_dvd_natAbs.mpr h1
    rw [Int.natAbs_mul] at h2
    exact Int.natAbs_dvd_natAbs.mp (Nat.Coprime.dvd_of_dvd_mul_right (show Nat.Coprime a.natAbs b.natAbs from cop) h2)
  · rintro ⟨c, hc⟩
    exact ⟨c * b, by rw [ea, eb, hc]; grind⟩
structure OI (w : Nat) (A S : List Vc) (h x : Vc) (o : Int) : Prop where
  eq : Spn (Ls (A ++ S)) fun i => x i - o * h i
  z : ∀ f ∈ A, x (pvt w f) = 0
  pos : 0 < o
  dv : ∀ k : Int, Spn (Ls (A ++ S)) (fun i => k * h i) → o ∣ k
theorem OI.mult {w : Nat} {A S : List Vc} {h x : Vc} {o k : Int} (I : OI w A S h x o) (hk : Spn (Ls (A ++ S)) fun i => k * h i) : ∃ k', k = o * k' ∧ Spn (Ls (A ++ S)) fun i => k' * x i := by
  obtain ⟨k', e⟩ := I.dv k hk
  refine ⟨k', e, (Spn.plus 1 (I.eq.smul k') hk).cast fun i => ?_⟩
  show k' * (x i - o * h i) + 1 * (k * h i) = k' * x i
  rw [e]; grind
theorem OI.step {w lo : Nat} {A S : List Vc} {r h x : Vc} {o : Int} (I : OI w A (r :: S) h x o) (hE : Ech w lo (A ++ r :: S)) (hp : 0 < r (pvt w r)) :
    OI w (A ++ [r]) S h (fun i => r (pvt w r) / (Nat.gcd (r (pvt w r)).natAbs (x (pvt w r)).natAbs : Nat) * x i + -((r (pvt w r) / (Nat.gcd (r (pvt w r)).natAbs (x (pvt w r)).natAbs : Nat) * x (pvt w r)) / r (pvt w r)) * r i)
      (o * (r (pvt w r) / (Nat.gcd (r (pvt w r)).natAbs (x (pvt w r)).natAbs : Nat))) := by
  have eA : A ++ [r] ++ S = A ++ r :: S := by rw [List.append_assoc]; rfl
  have mr : r ∈ A ++ r :: S := List.mem_append_right _ List.mem_cons_self
  generalize hf : r (pvt w r) / (Nat.gcd (r (pvt w r)).natAbs (x (pvt w r)).natAbs : Nat) = f at *
  have hd : r (pvt w r) ∣ f * x (pvt w r) := (dvd_part hp).mpr (by rw [hf]; exact Int.dvd_refl _)
  have f0 : 0 < f := by
    rw [← hf]
    have g0 : 0 < Nat.gcd (r (pvt w r)).natAbs (x (pvt w r)).natAbs := Nat.gcd_pos_of_pos_left _ (by omega)
    have d1 : ((Nat.gcd (r (pvt w r)).natAbs (x (pvt w r)).natAbs : Nat) : Int) ∣ r (pvt w r) := Int.gcd_dvd_left ..
    exact Int.ediv_pos_of_pos_of_dvd hp (by omega) d1
  refine ⟨?_, fun g hg => ?_, Int.mul_pos I.pos f0, fun k hk => ?_⟩
  · rw [eA]
    exact (Spn.plus (-((f * x (pvt w r)) / r (pvt w r))) (I.eq.smul f) (spn_mem mr)).cast fun i => by
      show f * (x i - o * h i) + -((f * x (pvt w r)) / r (pvt w r)) * r i = f * x i + -((f * x (pvt w r)) / r (pvt w r)) * r i - o * f * h i
      grind
  · show f * x (pvt w g) + -((f * x (pvt w r)) / r (pvt w r)) * r (pvt w g) = 0
    rcases List.mem_append.mp hg with hgA | hg
    · have h1 : pvt w g < pvt w r := by
        clear hd f0 hf I eA mr hg
        induction A generalizing lo with
        | nil => exact absurd hgA List.not_mem_nil
        | cons a A ih => cases hE with
          | cons e1 e2 e3 =>
            rcases List.mem_cons.mp hgA with rfl | hgA
            · exact (e3.mem r (List.mem_append_right _ List.mem_cons_self)).1
            · exact ih e3 hgA
      rw [I.z g hgA, pvt_zero (w := w) (f := r) _ h1]
      omega
    · rw [List.mem_singleton.mp hg]
      have := Int.ediv_mul_cancel hd
      rw [Int.neg_mul, this]
      omega
  · rw [eA] at hk
    obtain ⟨k', ek, hx⟩ := I.mult hk
    have hx2 := spn_drop hE hx fun g hg => by
      show k' * x (pvt w g) = 0
      rw [I.z g hg]; omega
    obtain ⟨c, y, hy, ey⟩ := spn_cons hx2
    have hS : Ech w (pvt w r + 1) S := by
      clear hd f0 hf I eA mr hk hx hx2 hy ey
      induction A generalizing lo with
      | nil => cases hE with
        | cons e1 e2 e3 => exact e3
      | cons a A ih => cases hE with
        | cons e1 e2 e3 => exact ih e3
    have e1 : k' * x (pvt w r) = y (pvt w r) + c * r (pvt w r) := ey (pvt w r)
    rw [hS.low hy _ (by omega), Int.zero_add] at e1
    have h2 : f ∣ k' := by
      rw [← hf]
      exact (dvd_part hp).mp ⟨c, by rw [e1, Int.mul_comm]⟩
    obtain ⟨c2, e2⟩ := h2
    exact ⟨c2, by rw [ek, e2, Int.mul_assoc]⟩
theorem OI.start {w : Nat} {S : List Vc} {h : Vc} : OI w [] S h h 1 :=
  ⟨Spn.zero.cast fun i => by show (0 : Int) = h i - 1 * h i; omega, fun f hf => absurd hf List.not_mem_nil, by omega, fun k _ => Int.one_dvd k⟩
theorem OI.fin {w lo : Nat} {A : List Vc} {h x : Vc} {o : Int} (I : OI w A [] h x o) (hE : Ech w lo A) (hP : Pos w A) (sx : Sup w x) : IsOrd A h (if pvt w x < w then 0 else o) := by
  have Ieq := I.eq
  have Idv := I.dv
  rw [List.append_nil] at Ieq Idv
  have hz : ∀ k' : Int, Spn (Ls A) (fun i => k' * x i) → ∀ i, k' * x i = 0 := fun k' hk => red_zero hE hP hk fun g hg => by
    show (k' * x (pvt w g)).natAbs < _
    rw [I.z g hg, Int.mul_zero]
    have := hP g hg
    omega
  refine ⟨by split; omega; exact Int.le_of_lt I.pos, fun k => ⟨fun hk => ?_, fun hk => ?_⟩⟩
  · obtain ⟨k', ek, hx⟩ := I.mult (by rw [List.append_nil]; exact hk)
    rw [List.append_nil] at hx
    split
    · rename_i c
      have := hz k' hx (pvt w x)
      have k0 : k' = 0 := (Int.mul_eq_zero.mp this).resolve_right (pvt_ne c)
      rw [ek, k0, Int.mul_zero]
      exact Int.dvd_refl _
    · exact Idv k hk
  · split at hk
    · have : k = 0 := Int.zero_dvd.mp hk
      rw [this]
      exact Spn.zero.cast fun i => by show (0 : Int) = 0 * h i; omega
    · rename_i c
      have x0 : ∀ i, x i = 0 := zero_of sx (Nat.le_antisymm pvt_le (by omega))
      obtain ⟨c, e⟩ := hk
      exact (Ieq.smul (-c)).cast fun i => by
        show -c * (x i - o * h i) = k * h i
        rw [x0, e]; grind

/-! ### bases, and orders told by them -/
def cmbF (c : Nat → Int) : List Vc → Vc
  | [] => fun _ => 0
  | f :: L => fun i => c 0 * f i + cmbF (fun k => c (k + 1)) L i
theorem cmbF_cong : ∀ {L : List Vc} {c d : Nat → Int}, (∀ k, k < L.length → c k = d k) → ∀ i, cmbF c L i = cmbF d L i
  | [], _, _, _, _ => rfl
  | f :: L, c, d, h, i => by
    show c 0 * f i + _ = d 0 * f i + _
    rw [h 0 (Nat.succ_pos _), cmbF_cong (L := L) (fun k hk => h (k + 1) (Nat.succ_lt_succ hk)) i]
theorem cmbF_lin {κ : Int} : ∀ {L : List Vc} {c d : Nat → Int} (i : Nat), cmbF (fun k => c k + κ * d k) L i = cmbF c L i + κ * cmbF d L i
  | [], _, _, _ => by show (0 : Int) = 0 + κ * 0; omega
  | f :: L, c, d, i => by
    show (c 0 + κ * d 0) * f i + _ = c 0 * f i + _ + κ * (d 0 * f i + _)
    rw [cmbF_lin (L := L) i]
    grind
theorem cmbF_zero : ∀ {L : List Vc} {c : Nat → Int}, (∀ k, k < L.length → c k = 0) → ∀ i, cmbF c L i = 0
  | [], _, _, _ => rfl
  | f :: L, c, h, i => by
    show c 0 * f i + _ = 0
    rw [h 0 (Nat.succ_pos _), cmbF_zero (L := L) (fun k hk => h (k + 1) (Nat.succ_lt_succ hk)) i]
    omega
theorem cmbF_one : ∀ {L : List Vc} {k : Nat} {b : Vc}, L[k]? = some b → ∀ i, cmbF (fun m => if m = k then 1 else 0) L i = b i
  | [], _, _, h, _ => by simp at h
  | f :: L, 0, b, h, i => by
    cases h
    show (if 0 = 0 then (1 : Int) else 0) * f i + cmbF (fun k => if k + 1 = 0 then 1 else 0) L i = f i
    rw [if_pos rfl, cmbF_zero (fun k _ => if_neg (by omega)) i]
    omega
  | f :: L, k + 1, b, h, i => by
    show (if 0 = k + 1 then (1 : Int) else 0) * f i + cmbF (fun m => if m + 1 = k + 1 then 1 else 0) L i = b i
    rw [if_neg (by omega), ← cmbF_one (L := L) (k := k) h i, Int.zero_mul, Int.zero_add]
    exact cmbF_cong (fun m _ => by
      by_cases c : m = k
      · rw [if_pos c, if_pos (by omega)]
      · rw [if_neg c, if_neg (by omega)]) i
theorem cmbF_at {L : List Vc} {c : Nat → Int} {k : Nat} {b : Vc} {κ : Int} (h : L[k]? = some b) (i : Nat) : cmbF (fun m => if m = k then c m + κ else c m) L i = cmbF c L i + κ * b i := by
  rw [← cmbF_one h i, ← cmbF_lin i]
  refine cmbF_cong (fun m _ => ?_) i
  by_cases e : m = k
  · rw [if_pos e, if_pos e]; omega
  · rw [if_neg e, if_neg e]; omega
theorem cmbF_set : ∀ {L : List Vc} {c : Nat → Int} {k : Nat} {f g : Vc}, L[k]? = some f → ∀ i, cmbF c (L.set k g) i = cmbF c L i + c k * (g i - f i)
  | [], _, _, _, _, h, _ => by simp at h
  | f' :: L, c, 0, f, g, h, i => by
    cases h
    show c 0 * g i + _ = c 0 * f' i + _ + c 0 * (g i - f' i)
    grind
  | f' :: L, c, k + 1, f, g, h, i => by
    show c 0 * f' i + cmbF (fun m => c (m + 1)) (L.set k g) i = c 0 * f' i + cmbF (fun m => c (m + 1)) L i + c (k + 1) * (g i - f i)
    rw [cmbF_set (L := L) (k := k) h i]
    omega
theorem cmbF_snoc {f : Vc} : ∀ {L : List Vc} {c : Nat → Int} (i : Nat), cmbF c (L ++ [f]) i = cmbF c L i + c L.length * f i
  | [], c, i => by show c 0 * f i + 0 = 0 + c 0 * f i; omega
  | g :: L, c, i => by
    show c 0 * g i + cmbF (fun k => c (k + 1)) (L ++ [f]) i = c 0 * g i + cmbF (fun k => c (k + 1)) L i + c (L.length + 1) * f i
    rw [cmbF_snoc (L := L) i]
    omega
theorem cmbF_spn {T : List Vc} : ∀ {L : List Vc} {c : Nat → Int}, (∀ k b, L[k]? = some b → Spn (Ls T) fun i => c k * b i) → Spn (Ls T) (cmbF c L)
  | [], _, _ => .zero
  | f :: L, c, h => by
    have h1 := cmbF_spn (T := T) (L := L) (c := fun k => c (k + 1)) fun k b e => h (k + 1) b e
    exact (Spn.plus 1 h1 (h 0 f rfl)).cast fun i => by
      show cmbF (fun k => c (k + 1)) L i + 1 * (c 0 * f i) = c 0 * f i + cmbF (fun k => c (k + 1)) L i
      omega
def IndF (L : List Vc) : Prop := ∀ c : Nat → Int, (∀ i, cmbF c L i = 0) → ∀ k, k < L.length → c k = 0
theorem IndF.set {L : List Vc} {k j : Nat} {f g : Vc} {γ : Int} (h : IndF L) (hk : L[k]? = some f) (hj : L[j]? = some g) (ne : k ≠ j) : IndF (L.set k fun i => f i + γ * g i) := fun c h0 m hm => by
  rw [List.length_set] at hm
  have e : ∀ i, cmbF (fun m => if m = j then c m + γ * c k else c m) L i = 0 := fun i => by
    rw [cmbF_at hj, ← h0 i, cmbF_set hk]
    grind
  have z := h _ e
  have lk : k < L.length := (List.getElem?_eq_some_iff.mp hk).1
  have zk := z k lk
  rw [if_neg ne] at zk
  have zm := z m hm
  split at zm
  · rw [zk] at zm; omega
  · exact zm
def unitV (i : Nat) : Vc := fun j => if i = j then 1 else 0
theorem cmbF_unit {c : Nat → Int} : ∀ (n i : Nat), cmbF c ((List.range n).map unitV) i = if i < n then c i else 0
  | 0, i => by rw [if_neg (Nat.not_lt_zero _)]; rfl
  | n + 1, i => by
    rw [List.range_succ, List.map_append, List.map_cons, List.map_nil, cmbF_snoc, cmbF_unit n i, List.length_map, List.length_range]
    show _ + c n * (if n = i then (1 : Int) else 0) = _
    rcases Nat.lt_trichotomy i n with h | h | h
    · rw [if_pos h, if_neg (by omega), if_pos (by omega)]; omega
    · subst h
      rw [if_neg (Nat.lt_irrefl _), if_pos rfl, if_pos (by omega)]; omega
    · rw [if_neg (by omega), if_neg (by omega), if_neg (by omega)]; omega
theorem ind_unit (n : Nat) : IndF ((List.range n).map unitV) := fun c h k hk => by
  rw [List.length_map, List.length_range] at hk
  have := h k
  rw [cmbF_unit, if_pos hk] at this
  exact this
/-- rows that are the multiples of the basis by the heads that are not 0 -/
structure RowsOf (hs : Nat → Int) (B R : List Vc) : Prop where
  mem : ∀ g ∈ R, ∃ k b, B[k]? = some b ∧ 0 < hs k ∧ ∀ i, g i = hs k * b i
  all : ∀ k b, B[k]? = some b → 0 < hs k → (fun i => hs k * b i) ∈ R
theorem RowsOf.spn {hs : Nat → Int} {B R : List Vc} (r : RowsOf hs B R) (h0 : ∀ k, 0 ≤ hs k) {x : Vc} : Spn (Ls R) x ↔ ∃ c : Nat → Int, ∀ i, x i = cmbF (fun k => hs k * c k) B i := by
  constructor
  · intro h
    refine h.ind (p := fun x => ∃ c : Nat → Int, ∀ i, x i = cmbF (fun k => hs k * c k) B i) ⟨fun _ => 0, fun i => (cmbF_zero (fun k _ => by show hs k * 0 = 0; omega) i).symm⟩ ?_
    rintro f g d ⟨c, e⟩ hg
    obtain ⟨k, b, hb, _, eg⟩ := r.mem g hg
    refine ⟨fun m => if m = k then c m + d else c m, fun i => ?_⟩
    show f i + d * g i = _
    rw [e, eg]
    have := cmbF_at (c := fun m => hs m * c m) (κ := d * hs k) hb i
    rw [show d * (hs k * b i) = d * hs k * b i by grind, ← this]
    refine cmbF_cong (fun m _ => ?_) i
    by_cases z : m = k
    · subst z
      rw [if_pos rfl]
      show _ = hs m * (if m = m then c m + d else c m)
      rw [if_pos rfl]; grind
    · rw [if_neg z]
      show _ = hs m * (if m = k then c m + d else c m)
      rw [if_neg z]
  · rintro ⟨c, e⟩
    refine (cmbF_spn (T := R) (L := B) (c := fun k => hs k * c k) fun k b hb => ?_).cast fun i => (e i).symm
    rcases Int.lt_or_eq_of_le (h0 k) with z | z
    · exact ((spn_mem (r.all k b hb z)).smul (c k)).cast fun i => by
        show c k * (hs k * b i) = hs k * c k * b i
        grind
    · exact Spn.zero.cast fun i => by
        show (0 : Int) = hs k * c k * b i
        rw [← z]; omega
theorem RowsOf.mult {hs it : Nat → Int} {B R : List Vc} {h : Vc} (r : RowsOf hs B R) (h0 : ∀ k, 0 ≤ hs k) (iB : IndF B) (eh : ∀ i, h i = cmbF it B i) (κ : Int) : Spn (Ls R) (fun i => κ * h i) ↔ ∀ k, k < B.length → hs k ∣ κ * it k := by
  rw [r.spn h0]
  constructor
  · rintro ⟨c, e⟩ k hk
    have z := iB (fun k => hs k * c k + -κ * it k) (fun i => by
      rw [cmbF_lin, ← e i, ← eh i]
      show κ * h i + -κ * h i = 0
      grind) k hk
    exact ⟨c k, by
      have z' : hs k * c k + -κ * it k = 0 := z
      rw [Int.neg_mul] at z'
      omega⟩
  · intro hd
    refine ⟨fun k => if hs k = 0 then 0 else κ * it k / hs k, fun i => ?_⟩
    rw [eh i]
    have : κ * cmbF it B i = cmbF (fun k => 0 + κ * it k) B i := by
      rw [cmbF_lin (c := fun _ => 0), cmbF_zero (fun _ _ => rfl)]
      omega
    show κ * cmbF it B i = _
    rw [this]
    refine cmbF_cong (fun k hk => ?_) i
    have d := hd k hk
    show 0 + κ * it k = hs k * (if hs k = 0 then 0 else κ * it k / hs k)
    split
    · rename_i z
      rw [z] at d
      have := Int.zero_dvd.mp d
      omega
    · rw [Int.mul_ediv_cancel' d]; omega
theorem lcm_iff {a b κ : Int} (ha : 0 < a) (hb : 0 < b) : (a ∣ κ ∧ b ∣ κ) ↔ (a / (Nat.gcd a.natAbs b.natAbs : Nat) * b) ∣ κ := by
  obtain ⟨m, rfl⟩ : ∃ m : Nat, a = (m : Int) := ⟨a.toNat, by omega⟩
  obtain ⟨n, rfl⟩ : ∃ n : Nat, b = (n : Int) := ⟨b.toNat, by omega⟩
  rw [Int.natAbs_natCast, Int.natAbs_natCast]
  have e : ((m : Int) / ((Nat.gcd m n : Nat) : Int) * (n : Int)) = ((Nat.lcm m n : Nat) : Int) := by
    rw [← Int.natCast_ediv, ← Int.natCast_mul]
    congr 1
    unfold Nat.lcm
    exact (Nat.div_mul_right_comm (Nat.gcd_dvd_left m n) n)
  rw [e]
  constructor
  · rintro ⟨h1, h2⟩
    have h1' := Int.natAbs_dvd_natAbs.mpr h1
    have h2' := Int.natAbs_dvd_natAbs.mpr h2
    exact Int.natAbs_dvd_natAbs.mp (Nat.lcm_dvd h1' h2')
  · intro h
    exact ⟨Int.dvd_trans (Int.natCast_dvd_natCast.mpr (Nat.dvd_lcm_left m n)) h, Int.dvd_trans (Int.natCast_dvd_natCast.mpr (Nat.dvd_lcm_right m n)) h⟩
/-- what the drawn numbers tell so far -/
def DueI (hs it : Nat → Int) (i : Nat) (due : Int) : Prop := 0 < due ∧ ∀ κ : Int, (∀ k, k < i → hs k ∣ κ * it k) ↔ due ∣ κ
theorem DueI.start {hs it : Nat → Int} : DueI hs it 0 1 := ⟨by omega, fun κ => ⟨fun _ => Int.one_dvd κ, fun _ k hk => absurd hk (Nat.not_lt_zero _)⟩⟩
theorem DueI.pos {hs it : Nat → Int} {i : Nat} {due : Int} (D : DueI hs it i due) (h : 0 < hs i) : 0 < hs i / (Nat.gcd (hs i).natAbs (it i).natAbs : Nat) ∧
    DueI hs it (i + 1) (due / (Nat.gcd due.natAbs (hs i / (Nat.gcd (hs i).natAbs (it i).natAbs : Nat)).natAbs : Nat) * (hs i / (Nat.gcd (hs i).natAbs (it i).natAbs : Nat))) := by
  have f0 : 0 < hs i / (Nat.gcd (hs i).natAbs (it i).natAbs : Nat) := by
    have g0 : 0 < Nat.gcd (hs i).natAbs (it i).natAbs := Nat.gcd_pos_of_pos_left _ (by omega)
    have d1 : ((Nat.gcd (hs i).natAbs (it i).natAbs : Nat) : Int) ∣ hs i := Int.gcd_dvd_left ..
    exact Int.ediv_pos_of_pos_of_dvd h (by omega) d1
  refine ⟨f0, ?_, fun κ => ?_⟩
  · have g0 : 0 < Nat.gcd due.natAbs (hs i / (Nat.gcd (hs i).natAbs (it i).natAbs : Nat)).natAbs := Nat.gcd_pos_of_pos_left _ (by have := D.1; omega)
    have d1 : ((Nat.gcd due.natAbs (hs i / (Nat.gcd (hs i).natAbs (it i).natAbs : Nat)).natAbs : Nat) : Int) ∣ due := Int.gcd_dvd_left ..
    exact Int.mul_pos (Int.ediv_pos_of_pos_of_dvd D.1 (by omega) d1) f0
  · rw [← lcm_iff D.1 f0, ← D.2 κ, ← dvd_part h]
    constructor
    · intro a
      exact ⟨fun k hk => a k (by omega), a i (by omega)⟩
    · rintro ⟨a, b⟩ k hk
      rcases Nat.lt_or_ge k i with c | c
      · exact a k c
      · rw [show k = i by omega]; exact b
theorem DueI.skip {hs it : Nat → Int} {i : Nat} {due : Int} (D : DueI hs it i due) (z : it i = 0) : DueI hs it (i + 1) due := ⟨D.1, fun κ => by
  rw [← D.2 κ]
  refine ⟨fun a k hk => a k (by omega), fun a k hk => ?_⟩
  rcases Nat.lt_or_ge k i with c | c
  · exact a k c
  · rw [show k = i by omega, z, Int.mul_zero]; exact Int.dvd_zero _⟩
theorem DueI.ord {hs it : Nat → Int} {B R : List Vc} {h : Vc} {due : Int} (r : RowsOf hs B R) (h0 : ∀ k, 0 ≤ hs k) (iB : IndF B) (eh : ∀ i, h i = cmbF it B i) (D : DueI hs it B.length due) : IsOrd R h due :=
  ⟨Int.le_of_lt D.1, fun κ => by rw [r.mult h0 iB eh]; exact D.2 κ⟩
theorem due_zero {hs it : Nat → Int} {B R : List Vc} {h : Vc} {k : Nat} (r : RowsOf hs B R) (h0 : ∀ k, 0 ≤ hs k) (iB : IndF B) (eh : ∀ i, h i = cmbF it B i) (hk : k < B.length) (hz : ¬ 0 < hs k) (ik : it k ≠ 0) : IsOrd R h 0 :=
  ⟨Int.le_refl _, fun κ => by
    rw [r.mult h0 iB eh]
    constructor
    · intro a
      have := a k hk
      rw [show hs k = 0 by have := h0 k; omega] at this
      have := Int.zero_dvd.mp this
      rw [(Int.mul_eq_zero.mp this).resolve_right ik]
      exact Int.dvd_refl _
    · intro a m _
      rw [Int.zero_dvd.mp a, Int.zero_mul]
      exact Int.dvd_zero _⟩

/-! ### kernels -/
theorem cmbF_supW {n : Nat} : ∀ {L : List Vc} {c : Nat → Int}, (∀ f ∈ L, Sup n f) → Sup n (cmbF c L)
  | [], _, _ => fun _ _ => rfl
  | f :: L, c, h => fun j hj => by
    show c 0 * f j + cmbF (fun k => c (k + 1)) L j = 0
    rw [h f List.mem_cons_self j hj, cmbF_supW (L := L) (fun g hg => h g (List.mem_cons_of_mem _ hg)) j hj]
    omega
theorem cmbF_pt : ∀ {L M : List Vc} {c : Nat → Int} {i j : Nat}, L.length = M.length → (∀ (k : Nat) (f g : Vc), L[k]? = some f → M[k]? = some g → f i = g j) → cmbF c L i = cmbF c M j
  | [], [], _, _, _, _, _ => rfl
  | [], _ :: _, _, _, _, h, _ => by cases h
  | _ :: _, [], _, _, _, h, _ => by cases h
  | f :: L, g :: M, c, i, j, h, hp => by
    show c 0 * f i + _ = c 0 * g j + _
    rw [hp 0 f g rfl rfl, cmbF_pt (L := L) (M := M) (Nat.succ.inj h) fun k f g e1 e2 => hp (k + 1) f g e1 e2]
theorem spn_cmbF {R : List Vc} {x : Vc} : Spn (Ls R) x ↔ ∃ c : Nat → Int, ∀ i, x i = cmbF c R i := by
  constructor
  · intro h
    refine h.ind (p := fun x => ∃ c : Nat → Int, ∀ i, x i = cmbF c R i) ⟨fun _ => 0, fun i => (cmbF_zero (fun _ _ => rfl) i).symm⟩ ?_
    rintro f g d ⟨c, e⟩ hg
    obtain ⟨k, hk, eg⟩ := List.getElem_of_mem hg
    have hb : R[k]? = some g := by rw [List.getElem?_eq_getElem hk, eg]
    refine ⟨fun m => if m = k then c m + d else c m, fun i => ?_⟩
    show f i + d * g i = _
    rw [e, cmbF_at hb]
  · rintro ⟨c, e⟩
    exact (cmbF_spn (T := R) (L := R) (c := c) fun k b hb => (spn_mem (List.mem_of_getElem? hb)).smul (c k)).cast fun i => (e i).symm
def joinV (w : Nat) (x y : Vc) : Vc := fun i => if i < w then x i else y (i - w)
def shiftV (w : Nat) (f : Vc) : Vc := fun i => f (i + w)
/-- what the rows A send to 0 -/
def Ker (n : Nat) (A : List Vc) (x : Vc) : Prop := Sup n x ∧ ∀ i, cmbF x A i = 0
/-- the rows with units behind them -/
def unitsOf (w : Nat) (A : List Vc) : List Vc := (List.range A.length).map fun k => joinV w (A.getD k fun _ => 0) (unitV k)
theorem unitsOf_len {w : Nat} {A : List Vc} : (unitsOf w A).length = A.length := by
  unfold unitsOf
  rw [List.length_map, List.length_range]
theorem unitsOf_at {w k : Nat} {A : List Vc} {f : Vc} (h : A[k]? = some f) : (unitsOf w A)[k]? = some (joinV w f (unitV k)) := by
  have hk : k < A.length := (List.getElem?_eq_some_iff.mp h).1
  unfold unitsOf
  rw [List.getElem?_map, List.getElem?_range hk]
  show some (joinV w (A.getD k fun _ => 0) (unitV k)) = _
  rw [List.getD_eq_getElem?_getD, h]
  rfl
theorem cmb_units {w : Nat} {A : List Vc} (hA : ∀ f ∈ A, Sup w f) (c : Nat → Int) : ∀ i, cmbF c (unitsOf w A) i = joinV w (cmbF c A) (fun k => if k < A.length then c k else 0) i := fun i => by
  unfold joinV
  split
  · rename_i h
    refine cmbF_pt unitsOf_len fun k f g e1 e2 => ?_
    rw [unitsOf_at e2] at e1
    cases e1
    unfold joinV
    rw [if_pos h]
  · rename_i h
    show cmbF c (unitsOf w A) i = if i - w < A.length then c (i - w) else 0
    rw [← cmbF_unit A.length (i - w)]
    refine cmbF_pt (by rw [unitsOf_len, List.length_map, List.length_range]) fun k f g e1 e2 => ?_
    have hk : k < A.length := by
      have := (List.getElem?_eq_some_iff.mp e1).1
      rwa [unitsOf_len] at this
    rw [unitsOf_at (List.getElem?_eq_getElem hk)] at e1
    cases e1
    rw [List.getElem?_map, List.getElem?_range hk] at e2
    cases e2
    unfold joinV
    rw [if_neg h]
theorem unitsOf_sup {w : Nat} {A : List Vc} : ∀ f ∈ unitsOf w A, Sup (w + A.length) f := fun f hf => by
  unfold unitsOf at hf
  obtain ⟨k, hk, rfl⟩ := List.mem_map.mp hf
  have := List.mem_range.mp hk
  intro i hi
  unfold joinV unitV
  rw [if_neg (by omega), if_neg (by omega)]
theorem pvt_shift {w n : Nat} {f : Vc} (h1 : w ≤ pvt (w + n) f) (h2 : pvt (w + n) f < w + n) : pvt n (shiftV w f) = pvt (w + n) f - w := by
  refine pvt_eq (by omega) (fun j hj => ?_) ?_
  · exact pvt_zero (w := w + n) (f := f) (j + w) (by omega)
  · show f (pvt (w + n) f - w + w) ≠ 0
    rw [Nat.sub_add_cancel h1]
    exact pvt_ne h2
theorem ech_shift {w n lo : Nat} {S : List Vc} (h : Ech (w + n) lo S) (hw : w ≤ lo) : Ech n (lo - w) (S.map (shiftV w)) := by
  induction h with
  | nil => exact .nil
  | @cons lo f S a b c ih =>
    have e := pvt_shift (n := n) (f := f) (show w ≤ pvt (w + n) f by omega) b
    refine .cons (by rw [e]; omega) (by rw [e]; omega) ?_
    rw [e]
    have := ih (by omega)
    rw [show pvt (w + n) f - w + 1 = pvt (w + n) f + 1 - w by omega]
    exact this
theorem red_shift {w n : Nat} {S : List Vc} (h : Red (w + n) S) (hp : ∀ f ∈ S, w ≤ pvt (w + n) f ∧ pvt (w + n) f < w + n) : Red n (S.map (shiftV w)) := by
  induction h with
  | nil => exact .nil
  | @cons f S a b c ih =>
    have pf := hp f List.mem_cons_self
    have sh : ∀ g : Vc, (w ≤ pvt (w + n) g ∧ pvt (w + n) g < w + n) → ∀ k : Vc, shiftV w k (pvt n (shiftV w g)) = k (pvt (w + n) g) := fun g hg k => by
      unfold shiftV
      have := pvt_shift (n := n) (f := g) hg.1 hg.2
      unfold shiftV at this
      rw [this, Nat.sub_add_cancel hg.1]
    refine .cons (by rw [sh f pf]; exact a) (fun g hg => ?_) (ih fun g hg => hp g (List.mem_cons_of_mem _ hg))
    obtain ⟨g', hg', rfl⟩ := List.mem_map.mp hg
    have pg := hp g' (List.mem_cons_of_mem _ hg')
    rw [sh g' pg, sh g' pg]
    exact b g' hg'
/-- the rows whose pivot stands behind w -/
def lowPart (W w : Nat) (T : List Vc) : List Vc := T.filter fun f => decide (w ≤ pvt W f)
theorem low_split {W w lo : Nat} {T : List Vc} (h : Ech W lo T) : ∃ T1, T = T1 ++ lowPart W w T ∧ (∀ f ∈ T1, pvt W f < w) ∧ Ech W (max lo w) (lowPart W w T) := by
  induction h with
  | nil => exact ⟨[], rfl, fun f hf => absurd hf List.not_mem_nil, .nil⟩
  | @cons lo f S a b c ih =>
    obtain ⟨T1, e1, e2, e3⟩ := ih
    by_cases h : w ≤ pvt W f
    · have hS : lowPart W w S = S := by
        refine List.filter_eq_self.mpr fun g hg => decide_eq_true ?_
        have := (c.mem g hg).1
        omega
      have hF : lowPart W w (f :: S) = f :: S := by
        unfold lowPart at hS ⊢
        rw [List.filter_cons, if_pos (decide_eq_true h), hS]
      rw [hF]
      exact ⟨[], rfl, fun f hf => absurd hf List.not_mem_nil, .cons (by omega) b c⟩
    · have hF : lowPart W w (f :: S) = lowPart W w S := by
        unfold lowPart
        rw [List.filter_cons, if_neg (by simpa using h)]
      rw [hF]
      refine ⟨f :: T1, by rw [List.cons_append, ← e1], fun g hg => ?_, e3.le (by omega)⟩
      rcases List.mem_cons.mp hg with rfl | hg
      · omega
      · exact e2 g hg
/-- the reduced table of a lattice that a fact tells -/
structure TbP (n : Nat) (p : Vc → Prop) (S : List Vc) : Prop where
  ech : Ech n 0 S
  red : Red n S
  iff : ∀ x, Spn (Ls S) x ↔ p x
theorem TbP.uniq {n : Nat} {p q : Vc → Prop} {S T : List Vc} (h : TbP n p S) (h' : TbP n q T) (e : ∀ x, p x ↔ q x) : S = T :=
  red_uniq h.ech h'.ech h.red h'.red (fun f hf => (h'.iff f).mpr ((e f).mp ((h.iff f).mp (spn_mem hf)))) fun f hf => (h.iff f).mpr ((e f).mpr ((h'.iff f).mp (spn_mem hf)))
theorem Tb.toP {n : Nat} {R T : List Vc} (h : Tb n R T) : TbP n (Spn (Ls R)) T := ⟨h.ech, h.red, fun x => ⟨fun a => spn_sub a h.sub, fun a => spn_sub a h.sup⟩⟩
theorem ker_tb {w : Nat} {A T : List Vc} (hA : ∀ f ∈ A, Sup w f) (h : Tb (w + A.length) (unitsOf w A) T) : TbP A.length (Ker A.length A) ((lowPart (w + A.length) w T).map (shiftV w)) := by
  obtain ⟨T1, e1, e2, e3⟩ := low_split (w := w) h.ech
  rw [show max 0 w = w by omega] at e3
  have hp : ∀ f ∈ lowPart (w + A.length) w T, w ≤ pvt (w + A.length) f ∧ pvt (w + A.length) f < w + A.length := fun f hf => ⟨(e3.mem f hf).1, (e3.mem f hf).2⟩
  have hred : Red (w + A.length) (lowPart (w + A.length) w T) := by
    have : ∀ {X Y : List Vc}, Red (w + A.length) (X ++ Y) → Red (w + A.length) Y := fun {X Y} r => by
      induction X with
      | nil => exact r
      | cons f X ih => cases r with
        | cons _ _ r => exact ih r
    have r := h.red
    rw [e1] at r
    exact this r
  have hsup : ∀ f ∈ T, Sup (w + A.length) f := h.sups unitsOf_sup
  have hl : ∀ x, Spn (Ls (lowPart (w + A.length) w T)) x ↔ Spn (Ls T) x ∧ ∀ i, i < w → x i = 0 := fun x => by
    constructor
    · intro hx
      refine ⟨spn_sub hx fun f hf => spn_mem (List.mem_filter.mp hf).1, e3.low hx⟩
    · rintro ⟨hx, h0⟩
      have hE := h.ech
      rw [e1] at hx hE
      exact spn_drop hE hx fun f hf => h0 _ (e2 f hf)
  have tw : ∀ x, Spn (Ls T) x ↔ ∃ c : Nat → Int, ∀ i, x i = joinV w (cmbF c A) (fun k => if k < A.length then c k else 0) i := fun x => by
    have a : Spn (Ls T) x ↔ Spn (Ls (unitsOf w A)) x := ⟨fun a => spn_sub a h.sub, fun a => spn_sub a h.sup⟩
    rw [a, spn_cmbF]
    constructor
    · rintro ⟨c, e⟩
      exact ⟨c, fun i => by rw [e, cmb_units hA]⟩
    · rintro ⟨c, e⟩
      exact ⟨c, fun i => by rw [e, cmb_units hA]⟩
  have csup : ∀ (c : Nat → Int), Sup w (cmbF c A) := fun c => by
    intro j hj
    exact cmbF_supW hA j hj
  refine ⟨?_, red_shift hred hp, fun y => ⟨fun hy => ?_, fun hy => ?_⟩⟩
  · have := ech_shift (n := A.length) e3 (Nat.le_refl w)
    rwa [Nat.sub_self] at this
  · -- a sum of shifted rows is a shifted sum
    have key : ∀ y, Spn (Ls ((lowPart (w + A.length) w T).map (shiftV w))) y → ∃ x, Spn (Ls (lowPart (w + A.length) w T)) x ∧ ∀ i, y i = x (i + w) := fun y hy => by
      refine hy.ind (p := fun y => ∃ x, Spn (Ls (lowPart (w + A.length) w T)) x ∧ ∀ i, y i = x (i + w)) ⟨_, .zero, fun _ => rfl⟩ ?_
      rintro f g c ⟨x, hx, e⟩ hg
      obtain ⟨g', hg', rfl⟩ := List.mem_map.mp hg
      exact ⟨_, Spn.add c hx hg', fun i => by show f i + c * g' (i + w) = _; rw [e]⟩
    obtain ⟨x, hx, e⟩ := key y hy
    obtain ⟨hx2, x0⟩ := (hl x).mp hx
    obtain ⟨c, ec⟩ := (tw x).mp hx2
    have ey : ∀ i, y i = if i < A.length then c i else 0 := fun i => by
      rw [e, ec]
      unfold joinV
      rw [if_neg (by omega), Nat.add_sub_cancel]
    refine ⟨fun i hi => by rw [ey, if_neg (by omega)], fun i => ?_⟩
    rw [cmbF_cong (d := c) fun k hk => by rw [ey, if_pos hk]]
    rcases Nat.lt_or_ge i w with z | z
    · have := x0 i z
      rw [ec] at this
      unfold joinV at this
      rwa [if_pos z] at this
    · exact csup c i z
  · obtain ⟨sy, ky⟩ := hy
    have hx : Spn (Ls (lowPart (w + A.length) w T)) (joinV w (fun _ => 0) y) := by
      refine (hl _).mpr ⟨(tw _).mpr ⟨y, fun i => ?_⟩, fun i hi => ?_⟩
      · unfold joinV
        split
        · exact (ky i).symm
        · show y (i - w) = if i - w < A.length then y (i - w) else 0
          split
          · rfl
          · exact sy _ (by omega)
      · unfold joinV
        rw [if_pos hi]
    have key : ∀ x, Spn (Ls (lowPart (w + A.length) w T)) x → Spn (Ls ((lowPart (w + A.length) w T).map (shiftV w))) (shiftV w x) := fun x hx => by
      refine hx.ind (p := fun x => Spn (Ls ((lowPart (w + A.length) w T).map (shiftV w))) (shiftV w x)) (Spn.zero.cast fun i => rfl) ?_
      rintro f g c hf hg
      exact (Spn.add c hf (show shiftV w g ∈ _ from List.mem_map.mpr ⟨g, hg, rfl⟩)).cast fun i => rfl
    refine (key _ hx).cast fun i => ?_
    unfold shiftV joinV
    rw [if_neg (by omega), Nat.add_sub_cancel]
/-! #### kernels of turned tables -/
def phi (i j : Nat) (c : Int) (f : Vc) : Vc := fun k => if k = j then f j - c * f i else f k
def psi (i j : Nat) (c : Int) (f : Vc) : Vc := fun k => if k = j then f j + c * f i else f k
theorem phi_at {i j : Nat} {c : Int} {f : Vc} : phi i j c f j = f j - c * f i := if_pos rfl
theorem psi_at {i j : Nat} {c : Int} {f : Vc} : psi i j c f j = f j + c * f i := if_pos rfl
theorem phi_ne {i j k : Nat} {c : Int} {f : Vc} (h : k ≠ j) : phi i j c f k = f k := if_neg h
theorem psi_ne {i j k : Nat} {c : Int} {f : Vc} (h : k ≠ j) : psi i j c f k = f k := if_neg h
theorem psi_phi {i j : Nat} {c : Int} (h : i ≠ j) (f : Vc) : psi i j c (phi i j c f) = f := funext fun k => by
  by_cases e : k = j
  · subst e
    rw [psi_at, phi_at, phi_ne h]; omega
  · rw [psi_ne e, phi_ne e]
theorem phi_psi {i j : Nat} {c : Int} (h : i ≠ j) (f : Vc) : phi i j c (psi i j c f) = f := funext fun k => by
  by_cases e : k = j
  · subst e
    rw [phi_at, psi_at, psi_ne h]; omega
  · rw [phi_ne e, psi_ne e]
theorem phi_spn {i j : Nat} {c : Int} {P : List Vc} {x : Vc} (h : i ≠ j) : Spn (Ls (P.map (phi i j c))) x ↔ Spn (Ls P) (psi i j c x) := by
  constructor
  · intro hx
    refine hx.ind (p := fun x => Spn (Ls P) (psi i j c x)) (Spn.zero.cast fun k => by show (0 : Int) = if k = j then 0 + c * 0 else 0; split <;> omega) ?_
    rintro f g d hf hg
    obtain ⟨g', hg', rfl⟩ := List.mem_map.mp hg
    refine (Spn.add d hf hg').cast fun k => ?_
    have e := congrFun (psi_phi (c := c) h g') k
    rw [← e]
    unfold psi
    split
    · grind
    · rfl
  · intro hx
    have key : ∀ y, Spn (Ls P) y → Spn (Ls (P.map (phi i j c))) (phi i j c y) := fun y hy => by
      refine hy.ind (p := fun y => Spn (Ls (P.map (phi i j c))) (phi i j c y)) (Spn.zero.cast fun k => by show (0 : Int) = if k = j then 0 - c * 0 else 0; split <;> omega) ?_
      rintro f g d hf hg
      refine (Spn.add d hf (show phi i j c g ∈ _ from List.mem_map.mpr ⟨g, hg, rfl⟩)).cast fun k => ?_
      unfold phi
      split
      · grind
      · rfl
    have := key _ hx
    rwa [phi_psi h] at this
theorem ker_set {n i j : Nat} {c : Int} {A : List Vc} {f g : Vc} {x : Vc} (hA : A.length = n) (hi : A[i]? = some f) (hj : A[j]? = some g) (h : i ≠ j) : Ker n (A.set i fun k => f k + c * g k) x ↔ Ker n A (psi i j c x) := by
  have li : i < A.length := (List.getElem?_eq_some_iff.mp hi).1
  have lj : j < A.length := (List.getElem?_eq_some_iff.mp hj).1
  have e : ∀ k, cmbF x (A.set i fun k => f k + c * g k) k = cmbF (psi i j c x) A k := fun k => by
    rw [cmbF_set hi]
    have h1 := cmbF_at (c := x) (κ := c * x i) hj k
    have h2 : cmbF (psi i j c x) A k = cmbF (fun m => if m = j then x m + c * x i else x m) A k := by
      refine cmbF_cong (fun m _ => ?_) k
      unfold psi
      by_cases z : m = j
      · subst z; rw [if_pos rfl]
      · rw [if_neg z, if_neg z]
    rw [h2, h1]
    grind
  unfold Ker
  constructor
  · rintro ⟨s, z⟩
    refine ⟨fun k hk => ?_, fun k => by rw [← e]; exact z k⟩
    unfold psi
    rw [if_neg (by omega)]
    exact s k hk
  · rintro ⟨s, z⟩
    refine ⟨fun k hk => ?_, fun k => by rw [e]; exact z k⟩
    have := s k hk
    unfold psi at this
    rwa [if_neg (by omega)] at this

local macro_rules | `(tactic| walk_at "rd") => `(tactic| simp (maxSteps := 2000000) only [CB.rd_var, CB.rd_C, CB.rd_op, CB.rd_un, CB.rd_I, CB.rd_I0, CB.rd_U, CB.rd_Eq, CB.rd_Ne, CB.rd_test, CB.rd_B, CB.rd_and, CB.rd_or, CB.rd_not, CB.rd_andV, CB.rd_orV, CB.rd_notV, CB.rd_if, CB.rd_chain, CB.rd_chain3,
  CB.rd_next, CB.rd_seq, CB.rd_drop, CB.rd_ret, CB.rd_retN, CB.rd_break, CB.rd_cont, CB.rd_ifS, CB.rd_asg, CB.rd_name, CB.rd_gsub, CB.rd_gtup, CB.rd_gcons, CB.rd_gnil, CB.rd_par, CB.rd_aug, CB.rd_ipI, CB.rd_nil, CB.rd_cons, CB.rd_tup, CB.rd_lst, CB.rd_CB, CB.rd_call, CB.rd_callS, CB.rd_ixL, CB.rd_ixT, CB.rd_setL, CB.rd_putS, CB.rd_forZ, CB.rd_lcZ, CB.rd_forE, CB.rd_forEL, CB.rd_lcE, CB.rd_isqrt, CB.rd_sum, CB.rd_append, CB.rd_forL, CB.rd_forT, CB.rd_forR1, CB.rd_forR2, CB.rd_forR3, CB.rd_lcL, CB.rd_lcT, CB.rd_lcR1, CB.rd_lcR2, CB.rd_yes, CB.rd_sl, CB.rd_noPart, CB.rd_part, CB.rd_slL, CB.rd_wipe0, CB.rd_rep, CB.rd_tupOf, CB.rd_lenS, CB.rd_gcd, CB.rd_wipe1, CB.rd_sorted3, CB.rd_any, CB.rd_all, CB.rd_ext, CB.rd_glst, CB.rd_sortedM, CB.rd_minD, CB.rd_indexD, CB.rd_pop, CB.rd_dnew, CB.rd_dget, CB.rd_dget2, CB.rd_dput, CB.rd_dm, CB.rd_anyI, CB.rd_ixDC, CB.rd_inDC, CB.rd_cat, CB.rd_lcZR, CB.rd_revR1, CB.rd_max2, CB.rd_forRv, CB.rd_ins, CB.rd_revT, CB.rd_listOf, CB.rd_inI, CB.rd_idxI,
  L2.start, List.map_cons, List.map_nil, List.length_cons, List.length_nil, Nat.reduceAdd, Nat.reduceSub, List.replicate_succ, List.replicate_zero,
  V.int.injEq, V.ref.injEq, V.bl.injEq, V.str.injEq, Option.some.injEq, List.cons.injEq, exists_and_left, exists_eq_left', exists_eq_left, reduceCtorEq, false_and, and_false, or_false, false_or, exists_false, exists_const, and_assoc, true_and, and_true,
  CB.scal_int, CB.scal_str, CB.dec_ii, CB.ite_dec, CB.ite_ndec, List.getElem?_cons_zero, List.getElem?_cons_succ, List.set_cons_zero, List.set_cons_succ, List.append_nil, List.cons_append, List.nil_append, if_true, if_false, Bool.false_eq_true, Bool.not_true, Bool.not_false, CB.K_nox, CB.K_cxOf, eq_self])
local macro_rules | `(tactic| walk_at "rs") => `(tactic| simp (maxSteps := 2000000) only [CB.rd_var, CB.rd_C, CB.rd_op, CB.rd_un, CB.rd_I, CB.rd_I0, CB.rd_U, CB.rd_Eq, CB.rd_Ne, CB.rd_test, CB.rd_B, CB.rd_and, CB.rd_or, CB.rd_not, CB.rd_andV, CB.rd_orV, CB.rd_notV, CB.rd_if, CB.rd_chain, CB.rd_chain3,
  CB.rd_next, CB.rd_drop, CB.rd_ret, CB.rd_retN, CB.rd_break, CB.rd_cont, CB.rd_ifS, CB.rd_asg, CB.rd_name, CB.rd_gsub, CB.rd_gtup, CB.rd_gcons, CB.rd_gnil, CB.rd_par, CB.rd_aug, CB.rd_ipI, CB.rd_nil, CB.rd_cons, CB.rd_tup, CB.rd_lst, CB.rd_CB, CB.rd_call, CB.rd_callS, CB.rd_ixL, CB.rd_ixT, CB.rd_setL, CB.rd_putS, CB.rd_forZ, CB.rd_lcZ, CB.rd_forE, CB.rd_forEL, CB.rd_lcE, CB.rd_isqrt, CB.rd_sum, CB.rd_append, CB.rd_forL, CB.rd_forT, CB.rd_forR1, CB.rd_forR2, CB.rd_forR3, CB.rd_lcL, CB.rd_lcT, CB.rd_lcR1, CB.rd_lcR2, CB.rd_yes, CB.rd_sl, CB.rd_noPart, CB.rd_part, CB.rd_slL, CB.rd_wipe0, CB.rd_rep, CB.rd_tupOf, CB.rd_lenS, CB.rd_gcd, CB.rd_wipe1, CB.rd_sorted3, CB.rd_any, CB.rd_all, CB.rd_ext, CB.rd_glst, CB.rd_sortedM, CB.rd_minD, CB.rd_indexD, CB.rd_pop, CB.rd_dnew, CB.rd_dget, CB.rd_dget2, CB.rd_dput, CB.rd_dm, CB.rd_anyI, CB.rd_ixDC, CB.rd_inDC, CB.rd_cat, CB.rd_lcZR, CB.rd_revR1, CB.rd_max2, CB.rd_forRv, CB.rd_ins, CB.rd_revT, CB.rd_listOf, CB.rd_inI, CB.rd_idxI,
  L2.start, List.map_cons, List.map_nil, List.length_cons, List.length_nil, Nat.reduceAdd, Nat.reduceSub, List.replicate_succ, List.replicate_zero,
  V.int.injEq, V.ref.injEq, V.bl.injEq, V.str.injEq, Option.some.injEq, List.cons.injEq, exists_and_left, exists_eq_left', exists_eq_left, reduceCtorEq, false_and, and_false, or_false, false_or, exists_false, exists_const, and_assoc, true_and, and_true,
  CB.scal_int, CB.scal_str, CB.dec_ii, CB.ite_dec, CB.ite_ndec, List.getElem?_cons_zero, List.getElem?_cons_succ, List.set_cons_zero, List.set_cons_succ, List.append_nil, List.cons_append, List.nil_append, if_true, if_false, Bool.false_eq_true, Bool.not_true, Bool.not_false, CB.K_nox, CB.K_cxOf, eq_self])

local macro_rules | `(tactic| walk_at "nx") => `(tactic| (show tSeq _ _ _ _ _; rw [CB.rd_seq]; walk_at "rs"))


section
variable {P : Program} {w : World} {K : PySem.W.Frag} {mg : Str → Option Value} {base : Heap} {CM CR : Addr}
theorem op_catAK {X : Cx} {K : PySem.W.Frag} (h : X.K = K) : OpR X (binaryOp .Add) (rCatA K) := by
  subst h
  exact op_catA
theorem cr_anyIK {X : Cx} {K : PySem.W.Frag} (h : X.K = K) (hc : X.calm = true) : CallR X (.builtin "any") (rAnyI K) := by
  subst h
  exact cr_anyI hc
theorem cat_end {K : PySem.W.Frag} {H : Hp} {a b : Addr} {xs ys : List V} {Q : VK} (ha : H a = some (.tup xs)) (hb : H b = some (.tup ys)) (hl : xs.length + ys.length ≤ 100000) (q : ∀ p H', Same H H' → H' p = some (.tup (xs ++ ys)) → Q (.ref p) H') :
    ∃ l, SqT K H a l ∧ ∃ m, SqT K H b m ∧ l.length + m.length ≤ sizeLine ∧ (l = [] → Q (.ref b) H) ∧ (l ≠ [] → m = [] → Q (.ref a) H) ∧ (l ≠ [] → m ≠ [] → ∀ p, H p = none → Q (.ref p) (upd H p (.tup (l ++ m)))) := by
  refine ⟨xs, SqT.of ha, ys, SqT.of hb, by rw [PySem.sizeLine_eq]; omega, fun e => q b H (Same.refl _) ?_, fun _ e => q a H (Same.refl _) ?_, fun _ _ p np => q p _ (same_upd np) upd_same⟩
  · rw [hb, e, List.nil_append]
  · rw [ha, e, List.append_nil]
theorem cat_any {H : Hp} {a b : Addr} {xs ys : List V} {Q : VK} (ha : H a = some (.tup xs)) (hb : H b = some (.tup ys)) (hl : xs.length + ys.length ≤ 100000) (q : ∀ p H', Same H H' → H' p = some (.tup (xs ++ ys)) → Q (.ref p) H') : rCatA K (.ref a) (.ref b) H Q := by
  rw [CB.rd_catA]
  obtain ⟨l, hl1, m, hm, r⟩ := cat_end (K := K) (Q := Q) ha hb hl q
  exact ⟨a, b, l, m, rfl, rfl, hl1, hm, r⟩
theorem sl_any {H : Hp} {a : Addr} {xs : List V} {lo hi : Option Int} {Q : VK} (ha : H a = some (.tup xs)) (q : ∀ p H', Same H H' → H' p = some (.tup (cutV xs lo hi)) → Q (.ref p) H') : rSlA K (.ref a) lo hi H Q := by
  rw [CB.rd_slA]
  refine ⟨a, xs, rfl, SqT.of ha, fun ⟨h1, h2⟩ => q a H (Same.refl _) ?_, fun _ p np => q p _ (same_upd np) upd_same⟩
  rw [ha]
  unfold cutV
  rw [h1, h2, List.drop_zero, Nat.sub_zero, List.take_length]
theorem mk_add {w n : Nat} {f g : Vc} : mk w f ++ mk n g = mk (w + n) (joinV w f g) := by
  refine List.ext_getElem? fun i => ?_
  rcases Nat.lt_or_ge i w with h | h
  · rw [List.getElem?_append_left (by rw [mk_len]; exact h), mk_get h, mk_get (by omega)]
    unfold joinV
    rw [if_pos h]
  · rw [List.getElem?_append_right (by rw [mk_len]; exact h), mk_len]
    rcases Nat.lt_or_ge i (w + n) with h2 | h2
    · rw [mk_get (by omega), mk_get h2]
      unfold joinV
      rw [if_neg (by omega)]
    · rw [List.getElem?_eq_none (by rw [mk_len]; omega), List.getElem?_eq_none (by rw [mk_len]; omega)]
theorem mk_take {w n : Nat} {f : Vc} (h : w ≤ n) : (mk n f).take w = mk w f := by
  unfold mk
  rw [← List.map_take, List.take_range, Nat.min_eq_left h]
theorem mk_dropw {w n : Nat} {f : Vc} : (mk (w + n) f).drop w = mk n (shiftV w f) := by
  refine List.ext_getElem? fun i => ?_
  rw [List.getElem?_drop]
  rcases Nat.lt_or_ge i n with h | h
  · rw [mk_get (by omega), mk_get h]
    unfold shiftV
    rw [Nat.add_comm]
  · rw [List.getElem?_eq_none (by rw [mk_len]; omega), List.getElem?_eq_none (by rw [mk_len]; omega)]
theorem joinV_bd {m w : Nat} {f g : Vc} (hf : Bd m f) (hg : Bd m g) : Bd m (joinV w f g) := fun i => by
  unfold joinV
  split
  · exact hf i
  · exact hg _
theorem unitV_bd {m k : Nat} : Bd (m + 1) (unitV k) := fun i => by
  unfold Sz unitV
  rw [Nat.pow_succ]
  have := Nat.one_le_two_pow (n := m)
  split <;> omega
theorem cutV_to {xs : List V} {n : Nat} (h : n ≤ xs.length) : cutV xs none (some (n : Int)) = xs.take n := by
  unfold cutV
  rw [HT.sIx_none, HT.sIx_nat, Nat.min_eq_left h, List.drop_zero, Nat.sub_zero]
theorem cutV_from {xs : List V} {n : Nat} (h : n ≤ xs.length) : cutV xs (some (n : Int)) none = xs.drop n := by
  unfold cutV
  rw [HT.sIx_none, HT.sIx_nat, Nat.min_eq_left h, List.take_of_length_le (by rw [List.length_drop]; omega)]
abbrev s__unit_row : Stmt := top 16
theorem sc__unit_row : FnScope ["at", "n", "k"] ["at", "n"] (defScope s__unit_row) := ⟨rfl, rfl, rfl, by decide +kernel, rfl, by decide +kernel, by decide +kernel⟩

def spUR : Sp := fun vs H Q _ => ∃ (k n : Nat), vs = [.int k, .int n] ∧ n ≤ 100 ∧ ∀ r H', Same H H' → H' r = some (.tup ((mk n (unitV k)).map V.int)) → Q (.ref r) H'
theorem cal_ur (D : Dn K mg "_unit_row" s__unit_row ["at", "n"]) (B : Bl mg) : Cal P w K mg base "_unit_row" 1 ["at", "n"] spUR := by
  refine D.cal sc__unit_row (fun vs H Q E h => by obtain ⟨k, n, rfl, _⟩ := h; rfl) (fun f cdv A outer s H vs Q E hr h => ?_)
  obtain ⟨k, n, rfl, hn, q⟩ := h
  refine ⟨_, (pss_one (ps_ret (pe_callTy cr_tupOf rfl B.tuple boot_tuple (pa_cons (pe_lc (own := [("k", 2)]) rfl sc__unit_row.nd (pi_range1 rfl B.range (pa_cons (pv 1) pa_nil)) (blkOk_by (N := ["at", "n", "k"]) (sc := defScope s__unit_row) (own := [("k", 2)]) (by decide +kernel)) (fun _ _ _ _ _ => (pg_name (i := 2) sc__unit_row.nd rfl (Or.inl rfl))) (fun _ _ _ _ _ => pts_nil) (fun _ _ _ _ _ => (pe_ifExp (pt_cmpR op_eq (pv 2) (pv 0) (nomark _)) pe_int pe_int))) pa_nil)))), ?_⟩
  walk_at "rd"
  refine ⟨by omega, by omega, ?_⟩
  rw [Int.toNat_natCast]
  refine LcR.p (fun i => some (V.int (unitV k i))) (by omega) ?_ ?_
  · intro i hi H1 s1 M S hM hS
    walk_at "rd"
    rw [Int.zero_add]
    unfold unitV at *
    by_cases c : k = i
    · rw [if_pos (by rw [c])]
      exact hM _ _ (by rw [if_pos c]) (Same.refl _)
    · rw [if_neg (fun z => c (Int.ofNat_inj.mp z).symm)]
      exact hM _ _ (by rw [if_neg c]) (Same.refl _)
  · intro D1 H1 nD s1 hD
    rw [fm_mk (unitV k)] at hD
    walk_at "rd"
    exact tup_end hD fun r nr => q r _ (s1.trans (same_upd nr)) upd_same
abbrev s__with_units : Stmt := top 17
theorem sc__with_units : FnScope ["rows", "width", "n", "at", "row"] ["rows", "width"] (defScope s__with_units) := ⟨rfl, rfl, rfl, by decide +kernel, rfl, by decide +kernel, by decide +kernel⟩

def spWU (K : PySem.W.Frag) : Sp := fun vs H Q _ => ∃ (s : Addr) (us : List V) (A : List Vc) (n : Nat), vs = [.ref s, .int n] ∧ SqT K H s us ∧ Rws H n us A ∧ n + A.length ≤ 12 ∧ (∀ f ∈ A, Sup n f) ∧ (∀ f ∈ A, Bd mm f) ∧
  ∀ (r : Addr) (zs : List V) (T : List Vc) (H' : Hp), Same H H' → H' r = some (.tup zs) → Rws H' (n + A.length) zs T → Tb (n + A.length) (unitsOf n A) T → Q (.ref r) H'
theorem unitsOf_bd {m n : Nat} {A : List Vc} (h : ∀ f ∈ A, Bd (m + 1) f) : ∀ f ∈ unitsOf n A, Bd (m + 1) f := fun f hf => by
  unfold unitsOf at hf
  obtain ⟨k, hk, rfl⟩ := List.mem_map.mp hf
  have hk := List.mem_range.mp hk
  refine joinV_bd ?_ unitV_bd
  rw [List.getD_eq_getElem?_getD, List.getElem?_eq_getElem hk]
  exact h _ (List.getElem_mem hk)
theorem cal_wu (D : Dn K mg "_with_units" s__with_units ["rows", "width"]) (B : Bl mg) (c__unit_row : Cal P w K mg base "_unit_row" 1 ["at", "n"] spUR) (c_span : Cal P w K mg base "span" 5 ["rows", "width"] (spSpan K mm)) : Cal P w K mg base "_with_units" 6 ["rows", "width"] (spWU K) := by
  refine D.cal sc__with_units (fun vs H Q E h => by obtain ⟨s, us, A, n, rfl, _⟩ := h; rfl) (fun f cdv A0 outer s H vs Q E hr h => ?_)
  obtain ⟨s, us, A, n, rfl, hs, hR, hn, sA, bA, q⟩ := h
  refine ⟨_, (pss_cons (ps_set (i := 2) sc__with_units.nd rfl (Or.inr rfl) (pe_callB cr_lenS rfl B.len (by decide +kernel) (pa_cons (pv 0) pa_nil)))
  (pss_one (ps_ret (pe_cal c_span (hr.mono (by decide)) rfl (pa_cons (pe_lc (own := [("at", 3), ("row", 4)]) rfl sc__with_units.nd (pi_enumT rfl B.enumerate (pa_cons (pv 0) pa_nil)) (blkOk_by (N := ["rows", "width", "n", "at", "row"]) (sc := defScope s__with_units) (own := [("at", 3), ("row", 4)]) (by decide +kernel)) (fun _ _ _ _ _ => (pg_tupK (K := K) (n := 2) rfl rfl (pgs_cons (pg_name (i := 3) sc__with_units.nd rfl (Or.inl rfl)) (pgs_cons (pg_name (i := 4) sc__with_units.nd rfl (Or.inl rfl)) pgs_nil)) rfl rfl)) (fun _ _ _ _ _ => pts_nil) (fun _ _ _ _ _ => (pe_op (op_catAK (K := K) rfl) (pe_callTy (cr_tupOfK (K := K) rfl) rfl B.tuple boot_tuple (pa_cons (pv 4) pa_nil)) (pe_cal c__unit_row (hr.mono (by decide)) rfl (pa_cons (pv 3) (pa_cons (pv 2) pa_nil)))))) (pa_cons (pe_op op_add (pv 1) (pv 2)) pa_nil)))))), ?_⟩
  have lR := hR.len
  rw [CB.rd_seq]
  walk_at "rs"
  refine ⟨us.length, .inr ⟨_, hs, rfl⟩, us, hs, LcE.w (xs := us) (fun i D zs H1 => zs.length = i ∧ Rws H1 (n + A.length) zs ((unitsOf n A).take i) ∧ Same H H1 ∧ H1 D = some (.lst zs) ∧ H D = none) (fun D nD => ⟨rfl, .nil, same_upd nD, upd_same, nD⟩) ?_ ?_ ?_⟩
  · rintro D i zs H1 _ ⟨_, _, s1, _, _⟩
    exact sqT_same s1 hs
  · rintro D i v T zs H1 hv ⟨lz, hz, s1, hD, nD⟩ nT N hN
    obtain ⟨g, hg, pg, rfl, hpg⟩ := (hR.same s1).get hv
    have hi : i < A.length := (List.getElem?_eq_some_iff.mp hg).1
    have s2 : Same H1 (L2.upd H1 T (.tup [.int (i : Nat), .ref pg])) := same_upd nT
    walk_at "rd"
    refine ⟨_, SqT.of upd_same, rfl, _, _, rfl, _, _, rfl, rfl, pg, rfl, _, .inr ⟨SqT.of (s2 _ _ hpg), ?_⟩⟩
    refine ⟨i, A.length, by rw [lR], by omega, fun r H3 s3 hr3 => ?_⟩
    refine cat_any (s3 _ _ (s2 _ _ hpg)) hr3 (by rw [List.length_map, List.length_map, mk_len, mk_len]; omega) fun p H4 s4 hp4 => ?_
    have hD4 := s4 _ _ (s3 _ _ (s2 _ _ hD))
    rw [← List.map_append, mk_add] at hp4
    refine ⟨_, hD4, small_size (by omega), hN (zs ++ [.ref p]) _ ⟨by rw [List.length_append, lz]; rfl, ?_, same_at (s1.trans (s2.trans (s3.trans s4))) nD, upd_same, nD⟩⟩
    rw [List.take_add_one, unitsOf_at hg]
    exact ((hz.same (s2.trans (s3.trans s4))).updL hD4).app (.cons (Rw.updL ⟨p, rfl, hp4⟩ hD4) .nil)
  · rintro D zs H1 nD ⟨lz, hz, s1, hD, _⟩
    rw [lR, ← unitsOf_len (w := n), List.take_length, unitsOf_len] at hz
    refine ⟨D, zs, unitsOf n A, n + A.length, by rw [lR, ← Int.natCast_add], .inl (SqL.of hD), hz, hn, by rw [unitsOf_len]; omega, unitsOf_sup, unitsOf_bd (m := 17) bA, fun r ws T H2 s2 hr2 hw t _ _ => q r ws T H2 (s1.trans s2) hr2 hw t⟩
theorem pvt_low {w n : Nat} {f : Vc} : decide (pvt w f < w) = !decide (w ≤ pvt (w + n) f) := by
  by_cases h : pvt w f < w
  · rw [decide_eq_true h, decide_eq_false, Bool.not_false]
    intro z
    exact pvt_ne h (pvt_zero (w := w + n) _ (by omega))
  · rw [decide_eq_false h, decide_eq_true, Bool.not_true]
    have e : pvt w f = w := Nat.le_antisymm pvt_le (by omega)
    exact pvt_ge (by omega) fun j hj => pvt_zero (w := w) j (by omega)
theorem lowPart_next {W w i : Nat} {T : List Vc} {g : Vc} (h : T[i]? = some g) : lowPart W w (T.take (i + 1)) = lowPart W w (T.take i) ++ if w ≤ pvt W g then [g] else [] := by
  unfold lowPart
  rw [List.take_add_one, h, List.filter_append]
  congr 1
  show List.filter _ [g] = _
  rw [List.filter_cons]
  by_cases c : w ≤ pvt W g
  · rw [if_pos (decide_eq_true c), if_pos c]; rfl
  · rw [if_neg (by simpa using c), if_neg c]; rfl
abbrev s_kernel : Stmt := top 18
theorem sc_kernel : FnScope ["rows", "width", "row"] ["rows", "width"] (defScope s_kernel) := ⟨rfl, rfl, rfl, by decide +kernel, rfl, by decide +kernel, by decide +kernel⟩

def spKer (K : PySem.W.Frag) : Sp := fun vs H Q _ => ∃ (s : Addr) (us : List V) (A : List Vc) (n : Nat), vs = [.ref s, .int n] ∧ SqT K H s us ∧ Rws H n us A ∧ n + A.length ≤ 12 ∧ (∀ f ∈ A, Sup n f) ∧ (∀ f ∈ A, Bd mm f) ∧
  ∀ (r : Addr) (zs : List V) (T : List Vc) (H' : Hp), Same H H' → H' r = some (.tup zs) → Rws H' A.length zs T → TbP A.length (Ker A.length A) T → (∀ f ∈ T, Sup A.length f) → Q (.ref r) H'
theorem cal_ker (D : Dn K mg "kernel" s_kernel ["rows", "width"]) (B : Bl mg) (c__with_units : Cal P w K mg base "_with_units" 6 ["rows", "width"] (spWU K)) : Cal P w K mg base "kernel" 7 ["rows", "width"] (spKer K) := by
  refine D.cal sc_kernel (fun vs H Q E h => by obtain ⟨s, us, A, n, rfl, _⟩ := h; rfl) (fun f cdv A0 outer s H vs Q E hr h => ?_)
  obtain ⟨s, us, A, n, rfl, hs, hR, hn, sA, bA, q⟩ := h
  refine ⟨_, (pss_one (ps_ret (pe_callTy cr_tupOf rfl B.tuple boot_tuple (pa_cons (pe_lc (own := [("row", 2)]) rfl sc_kernel.nd (pi_tup (pe_cal c__with_units (hr.mono (by decide)) rfl (pa_cons (pv 0) (pa_cons (pv 1) pa_nil)))) (blkOk_by (N := ["rows", "width", "row"]) (sc := defScope s_kernel) (own := [("row", 2)]) (by decide +kernel)) (fun _ _ _ _ _ => (pg_name (i := 2) sc_kernel.nd rfl (Or.inl rfl))) (fun _ _ _ _ _ => (pts_one (pt_not (pt_val (pe_callB (cr_anyIK (K := K) rfl rfl) rfl B.any (by decide +kernel) (pa_cons (pe_slice (sl_tupAK (K := K) rfl) (pv 2) po_none (po_some (pv 1))) pa_nil)))))) (fun _ _ _ _ _ => (pe_slice (sl_tupAK (K := K) rfl) (pv 2) (po_some (pv 1)) po_none))) pa_nil)))), ?_⟩
  have lR := hR.len
  walk_at "rd"
  refine ⟨s, us, A, n, rfl, hs, hR, hn, sA, bA, fun r zs T H1 s1 hr1 hz t => ?_⟩
  have lz := hz.len
  have l12 : T.length ≤ 12 := by
    rcases t.ech.len with h | h
    · omega
    · rw [h]; exact Nat.zero_le _
  refine ⟨r, rfl, ⟨_, SqT.of hr1⟩, LcT.w (xs := zs) (fun i D ys H2 => ys.length ≤ i ∧ Rws H2 A.length ys ((lowPart (n + A.length) n (T.take i)).map (shiftV n)) ∧ Same H1 H2 ∧ H2 D = some (.lst ys) ∧ H1 D = none) (fun D nD => ⟨Nat.le_refl _, .nil, same_upd nD, upd_same, nD⟩) ?_ ?_ ?_⟩
  · rintro D i ys H2 _ ⟨_, _, s2, _, _⟩
    exact SqT.of (s2 _ _ hr1)
  · rintro D i v ys H2 hv ⟨ly, hy, s2, hD, nD⟩ N hN
    obtain ⟨g, hg, pg, rfl, hpg⟩ := (hz.same s2).get hv
    have hi : i < T.length := (List.getElem?_eq_some_iff.mp hg).1
    walk_at "rd"
    refine sl_any hpg fun p H3 s3 hp3 => ⟨p, rfl, mk n g, .inr (SqT.of ?_), ?_⟩
    · rw [hp3, cutV_to (by rw [List.length_map, mk_len]; omega), ← List.map_take, mk_take (by omega)]
    have hD3 := s3 _ _ hD
    rw [any_mk, pvt_low (n := A.length), Bool.not_not]
    by_cases c : n ≤ pvt (n + A.length) g
    · rw [if_pos (decide_eq_true c)]
      refine sl_any (s3 _ _ hpg) fun p2 H4 s4 hp4 => ?_
      have hD4 := s4 _ _ hD3
      rw [cutV_from (by rw [List.length_map, mk_len]; omega), ← List.map_drop, mk_dropw] at hp4
      refine ⟨_, hD4, small_size (by omega), hN (ys ++ [.ref p2]) _ ⟨by rw [List.length_append]; exact Nat.add_le_add_right ly 1, ?_, same_at (s2.trans (s3.trans s4)) nD, upd_same, nD⟩⟩
      rw [lowPart_next hg, if_pos c, List.map_append]
      exact ((hy.same (s3.trans s4)).updL hD4).app (.cons (Rw.updL ⟨p2, rfl, hp4⟩ hD4) .nil)
    · rw [if_neg (by simpa using c)]
      refine hN ys _ ⟨Nat.le_succ_of_le ly, ?_, s2.trans s3, hD3, nD⟩
      rw [lowPart_next hg, if_neg c, List.append_nil]
      exact hy.same s3
  · rintro D ys H2 nD ⟨ly, hy, s2, hD, _⟩
    rw [lz, List.take_length] at hy
    have tp := ker_tb sA t
    refine ⟨D, rfl, _, .inl ⟨SqL.of hD, fun l nl => q l ys _ _ (s1.trans (s2.trans (same_upd nl))) upd_same (hy.same (same_upd nl)) tp fun f hf => ((tp.iff f).mp (spn_mem hf)).1⟩⟩
end

local macro_rules | `(tactic| walk_at "rd") => `(tactic| simp (maxSteps := 2000000) only [CB.rd_var, CB.rd_C, CB.rd_op, CB.rd_un, CB.rd_I, CB.rd_I0, CB.rd_U, CB.rd_Eq, CB.rd_Ne, CB.rd_test, CB.rd_B, CB.rd_and, CB.rd_or, CB.rd_not, CB.rd_andV, CB.rd_orV, CB.rd_notV, CB.rd_if, CB.rd_chain, CB.rd_chain3,
  CB.rd_next, CB.rd_seq, CB.rd_drop, CB.rd_ret, CB.rd_retN, CB.rd_break, CB.rd_cont, CB.rd_ifS, CB.rd_asg, CB.rd_name, CB.rd_gsub, CB.rd_gtup, CB.rd_gcons, CB.rd_gnil, CB.rd_par, CB.rd_aug, CB.rd_ipI, CB.rd_nil, CB.rd_cons, CB.rd_tup, CB.rd_lst, CB.rd_CB, CB.rd_call, CB.rd_callS, CB.rd_ixL, CB.rd_ixT, CB.rd_setL, CB.rd_putS, CB.rd_forZ, CB.rd_lcZ, CB.rd_forE, CB.rd_forEL, CB.rd_lcE, CB.rd_isqrt, CB.rd_sum, CB.rd_append, CB.rd_forL, CB.rd_forT, CB.rd_forR1, CB.rd_forR2, CB.rd_forR3, CB.rd_lcL, CB.rd_lcT, CB.rd_lcR1, CB.rd_lcR2, CB.rd_yes, CB.rd_sl, CB.rd_noPart, CB.rd_part, CB.rd_slL, CB.rd_wipe0, CB.rd_rep, CB.rd_tupOf, CB.rd_lenS, CB.rd_gcd, CB.rd_wipe1, CB.rd_sorted3, CB.rd_any, CB.rd_all, CB.rd_ext, CB.rd_glst, CB.rd_sortedM, CB.rd_minD, CB.rd_indexD, CB.rd_pop, CB.rd_dnew, CB.rd_dget, CB.rd_dget2, CB.rd_dput, CB.rd_dm, CB.rd_anyI, CB.rd_ixDC, CB.rd_inDC, CB.rd_cat, CB.rd_lcZR, CB.rd_revR1, CB.rd_max2, CB.rd_forRv, CB.rd_ins, CB.rd_revT, CB.rd_listOf, CB.rd_inI, CB.rd_idxI,
  L2.start, List.map_cons, List.map_nil, List.length_cons, List.length_nil, Nat.reduceAdd, Nat.reduceSub, List.replicate_succ, List.replicate_zero,
  V.int.injEq, V.ref.injEq, V.bl.injEq, V.str.injEq, Option.some.injEq, List.cons.injEq, exists_and_left, exists_eq_left', exists_eq_left, reduceCtorEq, false_and, and_false, or_false, false_or, exists_false, exists_const, and_assoc, true_and, and_true,
  CB.scal_int, CB.scal_str, CB.dec_ii, CB.ite_dec, CB.ite_ndec, List.getElem?_cons_zero, List.getElem?_cons_succ, List.set_cons_zero, List.set_cons_succ, List.append_nil, List.cons_append, List.nil_append, if_true, if_false, Bool.false_eq_true, Bool.not_true, Bool.not_false, CB.K_nox, CB.K_cxOf, eq_self])
local macro_rules | `(tactic| walk_at "rs") => `(tactic| simp (maxSteps := 2000000) only [CB.rd_var, CB.rd_C, CB.rd_op, CB.rd_un, CB.rd_I, CB.rd_I0, CB.rd_U, CB.rd_Eq, CB.rd_Ne, CB.rd_test, CB.rd_B, CB.rd_and, CB.rd_or, CB.rd_not, CB.rd_andV, CB.rd_orV, CB.rd_notV, CB.rd_if, CB.rd_chain, CB.rd_chain3,
  CB.rd_next, CB.rd_drop, CB.rd_ret, CB.rd_retN, CB.rd_break, CB.rd_cont, CB.rd_ifS, CB.rd_asg, CB.rd_name, CB.rd_gsub, CB.rd_gtup, CB.rd_gcons, CB.rd_gnil, CB.rd_par, CB.rd_aug, CB.rd_ipI, CB.rd_nil, CB.rd_cons, CB.rd_tup, CB.rd_lst, CB.rd_CB, CB.rd_call, CB.rd_callS, CB.rd_ixL, CB.rd_ixT, CB.rd_setL, CB.rd_putS, CB.rd_forZ, CB.rd_lcZ, CB.rd_forE, CB.rd_forEL, CB.rd_lcE, CB.rd_isqrt, CB.rd_sum, CB.rd_append, CB.rd_forL, CB.rd_forT, CB.rd_forR1, CB.rd_forR2, CB.rd_forR3, CB.rd_lcL, CB.rd_lcT, CB.rd_lcR1, CB.rd_lcR2, CB.rd_yes, CB.rd_sl, CB.rd_noPart, CB.rd_part, CB.rd_slL, CB.rd_wipe0, CB.rd_rep, CB.rd_tupOf, CB.rd_lenS, CB.rd_gcd, CB.rd_wipe1, CB.rd_sorted3, CB.rd_any, CB.rd_all, CB.rd_ext, CB.rd_glst, CB.rd_sortedM, CB.rd_minD, CB.rd_indexD, CB.rd_pop, CB.rd_dnew, CB.rd_dget, CB.rd_dget2, CB.rd_dput, CB.rd_dm, CB.rd_anyI, CB.rd_ixDC, CB.rd_inDC, CB.rd_cat, CB.rd_lcZR, CB.rd_revR1, CB.rd_max2, CB.rd_forRv, CB.rd_ins, CB.rd_revT, CB.rd_listOf, CB.rd_inI, CB.rd_idxI,
  L2.start, List.map_cons, List.map_nil, List.length_cons, List.length_nil, Nat.reduceAdd, Nat.reduceSub, List.replicate_succ, List.replicate_zero,
  V.int.injEq, V.ref.injEq, V.bl.injEq, V.str.injEq, Option.some.injEq, List.cons.injEq, exists_and_left, exists_eq_left', exists_eq_left, reduceCtorEq, false_and, and_false, or_false, false_or, exists_false, exists_const, and_assoc, true_and, and_true,
  CB.scal_int, CB.scal_str, CB.dec_ii, CB.ite_dec, CB.ite_ndec, List.getElem?_cons_zero, List.getElem?_cons_succ, List.set_cons_zero, List.set_cons_succ, List.append_nil, List.cons_append, List.nil_append, if_true, if_false, Bool.false_eq_true, Bool.not_true, Bool.not_false, CB.K_nox, CB.K_cxOf, eq_self])

local macro_rules | `(tactic| walk_at "nx") => `(tactic| (show tSeq _ _ _ _ _; rw [CB.rd_seq]; walk_at "rs"))


section
variable {P : Program} {w : World} {K : PySem.W.Frag} {mg : Str → Option Value} {base : Heap} {CM CR : Addr}
abbrev s_dot : Stmt := top 7
theorem sc_dot : FnScope ["v", "w", "a", "b"] ["v", "w"] (defScope s_dot) := ⟨rfl, rfl, rfl, by decide +kernel, rfl, by decide +kernel, by decide +kernel⟩

/-- the sum of the products, place by place -/
def dotS (n : Nat) (f g : Vc) : Int := ((List.range n).map fun k => f k * g k).sum
theorem mk_sum {n : Nat} (f : Vc) : (List.range n).map (fun k => V.int (f k)) = ((List.range n).map f).map V.int := by rw [List.map_map]; rfl
def spDot : Sp := fun vs H Q _ => ∃ (p q : Addr) (n : Nat) (f g : Vc), vs = [.ref p, .ref q] ∧ H p = some (.tup ((mk n f).map V.int)) ∧ H q = some (.tup ((mk n g).map V.int)) ∧ n ≤ 100 ∧ (∀ i, IntMulOk (f i) (g i)) ∧
  ∀ H', Same H H' → Q (.int (dotS n f g)) H'
theorem cal_dot (D : Dn K mg "dot" s_dot ["v", "w"]) (B : Bl mg) : Cal P w K mg base "dot" 1 ["v", "w"] spDot := by
  refine D.cal sc_dot (fun vs H Q E h => by obtain ⟨p, q, n, xs, ys, rfl, _⟩ := h; rfl) (fun f cdv A outer s H vs Q E hr h => ?_)
  obtain ⟨p, q, n, f, g, rfl, hp, hq, hl, ok, k⟩ := h
  refine ⟨_, (pss_one (ps_ret (pe_callB (cr_sum rfl) rfl B.sum (by decide +kernel) (pa_cons (pe_lc (own := [("a", 2), ("b", 3)]) rfl sc_dot.nd (pi_zipM true true rfl B.zip (pa_cons (pv 0) (pa_cons (pv 1) pa_nil))) (blkOk_by (N := ["v", "w", "a", "b"]) (sc := defScope s_dot) (own := [("a", 2), ("b", 3)]) (by decide +kernel)) (fun _ _ _ _ _ => (pg_tupK (K := K) (n := 2) rfl rfl (pgs_cons (pg_name (i := 2) sc_dot.nd rfl (Or.inl rfl)) (pgs_cons (pg_name (i := 3) sc_dot.nd rfl (Or.inl rfl)) pgs_nil)) rfl rfl)) (fun _ _ _ _ _ => pts_nil) (fun _ _ _ _ _ => (pe_op op_mulI (pv 2) (pv 3)))) pa_nil)))), ?_⟩
  walk_at "rd"
  refine ⟨_, SqT.of hp, _, SqT.of hq, LcZ.p (xs := (mk n f).map V.int) (ys := (mk n g).map V.int) (n := n) (by rw [List.length_map, List.length_map, mk_len, mk_len]; omega) (fun i => some (V.int (f i * g i))) (by omega) (fun H1 s1 => ⟨SqT.of (s1 _ _ hp), SqT.of (s1 _ _ hq)⟩) ?_ ?_⟩
  · intro i x x' hx hx' H1 T s1 hT M S hM hS
    obtain ⟨_, rfl⟩ := mk_at hx
    obtain ⟨_, rfl⟩ := mk_at hx'
    walk_at "rd"
    exact two_end hT ⟨_, rfl, _, rfl, ok i, hM _ _ rfl (Same.refl _)⟩
  · intro D' H1 nD s1 hD
    rw [fm_some (fun i => V.int (f i * g i)), mk_sum (fun i => f i * g i)] at hD
    walk_at "rd"
    exact ⟨_, SqL.of hD, k H1 s1⟩
abbrev s_moved : Stmt := top 8
theorem sc_moved : FnScope ["x", "rows", "width", "result", "c", "row"] ["x", "rows", "width"] (defScope s_moved) := ⟨rfl, rfl, rfl, by decide +kernel, rfl, by decide +kernel, by decide +kernel⟩

def spMv (K : PySem.W.Frag) : Sp := fun vs H Q _ => ∃ (p s : Addr) (us : List V) (c : Vc) (A : List Vc) (n : Nat), vs = [.ref p, .ref s, .int n] ∧ H p = some (.tup ((mk A.length c).map V.int)) ∧ (SqL K H s us ∨ SqT K H s us) ∧ Rws H n us A ∧ n ≤ 100 ∧ A.length ≤ 100 ∧ (∀ f ∈ A, ∀ i k, IntMulOk (c k) (f i)) ∧
  ∀ (r : Addr) H', Same H H' → H' r = some (.tup ((mk n (cmbF c A)).map V.int)) → Q (.ref r) H'
theorem cmbF_next {c : Nat → Int} {A : List Vc} {i : Nat} {f : Vc} (h : A[i]? = some f) : cmbF c (A.take (i + 1)) = fun j => cmbF c (A.take i) j + c i * f j := funext fun j => by
  have hi : i < A.length := (List.getElem?_eq_some_iff.mp h).1
  rw [List.take_add_one, h]
  show cmbF c (A.take i ++ [f]) j = _
  rw [cmbF_snoc, List.length_take, Nat.min_eq_left (by omega)]
theorem cal_mv (D : Dn K mg "moved" s_moved ["x", "rows", "width"]) (B : Bl mg) (c_add : Cal P w K mg base "add" 1 ["v", "w"] spAdd) (c_scaled : Cal P w K mg base "scaled" 1 ["v", "c"] spSc) : Cal P w K mg base "moved" 2 ["x", "rows", "width"] (spMv K) := by
  refine D.cal sc_moved (fun vs H Q E h => by obtain ⟨p, s, us, c, A, n, rfl, _⟩ := h; rfl) (fun fa cdv A0 outer s0 H vs Q E hr h => ?_)
  obtain ⟨p, s, us, c, A, n, rfl, hp, hs, hR, hn, hl, ok, k⟩ := h
  have lR := hR.len
  rcases hs with hs | hs
  · refine ⟨_, (pss_cons (ps_set (i := 3) sc_moved.nd rfl (Or.inl rfl) (pe_op op_repA (pe_tup (pa_cons pe_int pa_nil)) (pv 2)))
  (pss_cons (ps_for PassesOwn.never rfl (pi_zipM true false rfl B.zip (pa_cons (pv 0) (pa_cons (pv 1) pa_nil))) (pg_tup (n := 2) rfl (pgs_cons (pg_name (i := 4) sc_moved.nd rfl (Or.inl rfl)) (pgs_cons (pg_name (i := 5) sc_moved.nd rfl (Or.inl rfl)) pgs_nil))) (pss_one (ps_set (i := 3) sc_moved.nd rfl (Or.inl rfl) (pe_cal c_add (hr.mono (by decide)) rfl (pa_cons (pv 3) (pa_cons (pe_cal c_scaled (hr.mono (by decide)) rfl (pa_cons (pv 5) (pa_cons (pv 4) pa_nil))) pa_nil))))))
  (pss_one (ps_ret (pv 3))))), ?_⟩
    rw [CB.rd_seq]
    walk_at "rs"
    refine ⟨by decide, fun p0 np0 => ⟨p0, n, [.int 0], rfl, rfl, upd_same, by simp, by omega, by simp, fun r0 H1 s1 hr0 => ?_⟩⟩
    rw [← mk_zero] at hr0
    replace s1 : Same H H1 := (same_upd np0).trans s1
    rw [CB.rd_seq]
    walk_at "rs"
    refine ⟨_, SqT.of (s1 _ _ hp), _, sqL_same s1 hs, ForZ.w (xs := (mk A.length c).map V.int) (ys := us) (n := A.length) (by rw [List.length_map, mk_len, lR, Nat.min_self]) (fun i σ H2 => ∃ pr a b, σ = [some (.ref p), some (.ref s), some (.int n), some (.ref pr), a, b] ∧ Same H H2 ∧ H2 pr = some (.tup ((mk n (cmbF c (A.take i))).map V.int))) ⟨r0, _, _, rfl, s1, hr0⟩ ?_ ?_ ?_⟩
    · rintro i σ H2 _ ⟨pr, a, b, rfl, s2, _⟩
      exact ⟨SqT.of (s2 _ _ hp), sqL_same s2 hs⟩
    · rintro i x y T σ H2 hx hy ⟨pr, a, b, rfl, s2, hpr⟩ nT N hN
      obtain ⟨hi, rfl⟩ := mk_at hx
      obtain ⟨g, hg, pg, rfl, hpg⟩ := (hR.same s2).get hy
      have gA : g ∈ A := List.mem_of_getElem? hg
      have sT : Same H2 (L2.upd H2 T (.tup [.int (c i), .ref pg])) := same_upd nT
      walk_at "rs"
      refine ⟨_, SqT.of upd_same, rfl, _, _, rfl, _, _, rfl, rfl, ?_⟩
      refine ⟨pg, n, g, c i, rfl, sT _ _ hpg, hn, fun k => ok g gA k i, fun r H3 s3 _ hr3 => ?_⟩
      refine ⟨pr, r, n, cmbF c (A.take i), fun j => c i * g j, rfl, s3 _ _ (sT _ _ hpr), hr3, hn, fun r4 H4 s4 _ hr4 => ?_⟩
      refine hN _ _ ⟨r4, _, _, rfl, s2.trans (sT.trans (s3.trans s4)), ?_⟩
      rw [cmbF_next hg]
      exact hr4
    · rintro σ H2 ⟨pr, a, b, rfl, s2, hpr⟩
      rw [List.take_length] at hpr
      walk_at "rs"
      exact k pr H2 s2 hpr
  · refine ⟨_, (pss_cons (ps_set (i := 3) sc_moved.nd rfl (Or.inl rfl) (pe_op op_repA (pe_tup (pa_cons pe_int pa_nil)) (pv 2)))
  (pss_cons (ps_for PassesOwn.never rfl (pi_zipM true true rfl B.zip (pa_cons (pv 0) (pa_cons (pv 1) pa_nil))) (pg_tup (n := 2) rfl (pgs_cons (pg_name (i := 4) sc_moved.nd rfl (Or.inl rfl)) (pgs_cons (pg_name (i := 5) sc_moved.nd rfl (Or.inl rfl)) pgs_nil))) (pss_one (ps_set (i := 3) sc_moved.nd rfl (Or.inl rfl) (pe_cal c_add (hr.mono (by decide)) rfl (pa_cons (pv 3) (pa_cons (pe_cal c_scaled (hr.mono (by decide)) rfl (pa_cons (pv 5) (pa_cons (pv 4) pa_nil))) pa_nil))))))
  (pss_one (ps_ret (pv 3))))), ?_⟩
    rw [CB.rd_seq]
    walk_at "rs"
    refine ⟨by decide, fun p0 np0 => ⟨p0, n, [.int 0], rfl, rfl, upd_same, by simp, by omega, by simp, fun r0 H1 s1 hr0 => ?_⟩⟩
    rw [← mk_zero] at hr0
    replace s1 : Same H H1 := (same_upd np0).trans s1
    rw [CB.rd_seq]
    walk_at "rs"
    refine ⟨_, SqT.of (s1 _ _ hp), _, sqT_same s1 hs, ForZ.w (xs := (mk A.length c).map V.int) (ys := us) (n := A.length) (by rw [List.length_map, mk_len, lR, Nat.min_self]) (fun i σ H2 => ∃ pr a b, σ = [some (.ref p), some (.ref s), some (.int n), some (.ref pr), a, b] ∧ Same H H2 ∧ H2 pr = some (.tup ((mk n (cmbF c (A.take i))).map V.int))) ⟨r0, _, _, rfl, s1, hr0⟩ ?_ ?_ ?_⟩
    · rintro i σ H2 _ ⟨pr, a, b, rfl, s2, _⟩
      exact ⟨SqT.of (s2 _ _ hp), sqT_same s2 hs⟩
    · rintro i x y T σ H2 hx hy ⟨pr, a, b, rfl, s2, hpr⟩ nT N hN
      obtain ⟨hi, rfl⟩ := mk_at hx
      obtain ⟨g, hg, pg, rfl, hpg⟩ := (hR.same s2).get hy
      have gA : g ∈ A := List.mem_of_getElem? hg
      have sT : Same H2 (L2.upd H2 T (.tup [.int (c i), .ref pg])) := same_upd nT
      walk_at "rs"
      refine ⟨_, SqT.of upd_same, rfl, _, _, rfl, _, _, rfl, rfl, ?_⟩
      refine ⟨pg, n, g, c i, rfl, sT _ _ hpg, hn, fun k => ok g gA k i, fun r H3 s3 _ hr3 => ?_⟩
      refine ⟨pr, r, n, cmbF c (A.take i), fun j => c i * g j, rfl, s3 _ _ (sT _ _ hpr), hr3, hn, fun r4 H4 s4 _ hr4 => ?_⟩
      refine hN _ _ ⟨r4, _, _, rfl, s2.trans (sT.trans (s3.trans s4)), ?_⟩
      rw [cmbF_next hg]
      exact hr4
    · rintro σ H2 ⟨pr, a, b, rfl, s2, hpr⟩
      rw [List.take_length] at hpr
      walk_at "rs"
      exact k pr H2 s2 hpr
end

local macro_rules | `(tactic| walk_at "rd") => `(tactic| simp (maxSteps := 2000000) only [CB.rd_var, CB.rd_C, CB.rd_op, CB.rd_un, CB.rd_I, CB.rd_I0, CB.rd_U, CB.rd_Eq, CB.rd_Ne, CB.rd_test, CB.rd_B, CB.rd_and, CB.rd_or, CB.rd_not, CB.rd_andV, CB.rd_orV, CB.rd_notV, CB.rd_if, CB.rd_chain, CB.rd_chain3,
  CB.rd_next, CB.rd_seq, CB.rd_drop, CB.rd_ret, CB.rd_retN, CB.rd_break, CB.rd_cont, CB.rd_ifS, CB.rd_asg, CB.rd_name, CB.rd_gsub, CB.rd_gtup, CB.rd_gcons, CB.rd_gnil, CB.rd_par, CB.rd_aug, CB.rd_ipI, CB.rd_nil, CB.rd_cons, CB.rd_tup, CB.rd_lst, CB.rd_CB, CB.rd_call, CB.rd_callS, CB.rd_ixL, CB.rd_ixT, CB.rd_setL, CB.rd_putS, CB.rd_forZ, CB.rd_lcZ, CB.rd_forE, CB.rd_forEL, CB.rd_lcE, CB.rd_isqrt, CB.rd_sum, CB.rd_append, CB.rd_forL, CB.rd_forT, CB.rd_forR1, CB.rd_forR2, CB.rd_forR3, CB.rd_lcL, CB.rd_lcT, CB.rd_lcR1, CB.rd_lcR2, CB.rd_yes, CB.rd_sl, CB.rd_noPart, CB.rd_part, CB.rd_slL, CB.rd_wipe0, CB.rd_rep, CB.rd_tupOf, CB.rd_lenS, CB.rd_gcd, CB.rd_wipe1, CB.rd_sorted3, CB.rd_any, CB.rd_all, CB.rd_ext, CB.rd_glst, CB.rd_sortedM, CB.rd_minD, CB.rd_indexD, CB.rd_pop, CB.rd_dnew, CB.rd_dget, CB.rd_dget2, CB.rd_dput, CB.rd_dm, CB.rd_anyI, CB.rd_ixDC, CB.rd_inDC, CB.rd_cat, CB.rd_lcZR, CB.rd_revR1, CB.rd_max2, CB.rd_forRv, CB.rd_ins, CB.rd_revT, CB.rd_listOf, CB.rd_inI, CB.rd_idxI,
  L2.start, List.map_cons, List.map_nil, List.length_cons, List.length_nil, Nat.reduceAdd, Nat.reduceSub, List.replicate_succ, List.replicate_zero,
  V.int.injEq, V.ref.injEq, V.bl.injEq, V.str.injEq, Option.some.injEq, List.cons.injEq, exists_and_left, exists_eq_left', exists_eq_left, reduceCtorEq, false_and, and_false, or_false, false_or, exists_false, exists_const, and_assoc, true_and, and_true,
  CB.scal_int, CB.scal_str, CB.dec_ii, CB.ite_dec, CB.ite_ndec, List.getElem?_cons_zero, List.getElem?_cons_succ, List.set_cons_zero, List.set_cons_succ, List.append_nil, List.cons_append, List.nil_append, if_true, if_false, Bool.false_eq_true, Bool.not_true, Bool.not_false, CB.K_nox, CB.K_cxOf, eq_self])
local macro_rules | `(tactic| walk_at "rs") => `(tactic| simp (maxSteps := 2000000) only [CB.rd_var, CB.rd_C, CB.rd_op, CB.rd_un, CB.rd_I, CB.rd_I0, CB.rd_U, CB.rd_Eq, CB.rd_Ne, CB.rd_test, CB.rd_B, CB.rd_and, CB.rd_or, CB.rd_not, CB.rd_andV, CB.rd_orV, CB.rd_notV, CB.rd_if, CB.rd_chain, CB.rd_chain3,
  CB.rd_next, CB.rd_drop, CB.rd_ret, CB.rd_retN, CB.rd_break, CB.rd_cont, CB.rd_ifS, CB.rd_asg, CB.rd_name, CB.rd_gsub, CB.rd_gtup, CB.rd_gcons, CB.rd_gnil, CB.rd_par, CB.rd_aug, CB.rd_ipI, CB.rd_nil, CB.rd_cons, CB.rd_tup, CB.rd_lst, CB.rd_CB, CB.rd_call, CB.rd_callS, CB.rd_ixL, CB.rd_ixT, CB.rd_setL, CB.rd_putS, CB.rd_forZ, CB.rd_lcZ, CB.rd_forE, CB.rd_forEL, CB.rd_lcE, CB.rd_isqrt, CB.rd_sum, CB.rd_append, CB.rd_forL, CB.rd_forT, CB.rd_forR1, CB.rd_forR2, CB.rd_forR3, CB.rd_lcL, CB.rd_lcT, CB.rd_lcR1, CB.rd_lcR2, CB.rd_yes, CB.rd_sl, CB.rd_noPart, CB.rd_part, CB.rd_slL, CB.rd_wipe0, CB.rd_rep, CB.rd_tupOf, CB.rd_lenS, CB.rd_gcd, CB.rd_wipe1, CB.rd_sorted3, CB.rd_any, CB.rd_all, CB.rd_ext, CB.rd_glst, CB.rd_sortedM, CB.rd_minD, CB.rd_indexD, CB.rd_pop, CB.rd_dnew, CB.rd_dget, CB.rd_dget2, CB.rd_dput, CB.rd_dm, CB.rd_anyI, CB.rd_ixDC, CB.rd_inDC, CB.rd_cat, CB.rd_lcZR, CB.rd_revR1, CB.rd_max2, CB.rd_forRv, CB.rd_ins, CB.rd_revT, CB.rd_listOf, CB.rd_inI, CB.rd_idxI,
  L2.start, List.map_cons, List.map_nil, List.length_cons, List.length_nil, Nat.reduceAdd, Nat.reduceSub, List.replicate_succ, List.replicate_zero,
  V.int.injEq, V.ref.injEq, V.bl.injEq, V.str.injEq, Option.some.injEq, List.cons.injEq, exists_and_left, exists_eq_left', exists_eq_left, reduceCtorEq, false_and, and_false, or_false, false_or, exists_false, exists_const, and_assoc, true_and, and_true,
  CB.scal_int, CB.scal_str, CB.dec_ii, CB.ite_dec, CB.ite_ndec, List.getElem?_cons_zero, List.getElem?_cons_succ, List.set_cons_zero, List.set_cons_succ, List.append_nil, List.cons_append, List.nil_append, if_true, if_false, Bool.false_eq_true, Bool.not_true, Bool.not_false, CB.K_nox, CB.K_cxOf, eq_self])

local macro_rules | `(tactic| walk_at "nx") => `(tactic| (show tSeq _ _ _ _ _; rw [CB.rd_seq]; walk_at "rs"))


section
variable {P : Program} {w : World} {K : PySem.W.Frag} {mg : Str → Option Value} {base : Heap} {CM CR : Addr}
abbrev s__law_whole : Stmt := top 25
theorem sc__law_whole : FnScope ["value", "due"] ["value", "due"] (defScope s__law_whole) := ⟨rfl, rfl, rfl, by decide +kernel, rfl, by decide +kernel, by decide +kernel⟩

def spWho : Sp := fun vs H Q _ => ∃ x : Int, vs = [.int x, .int x] ∧ Q (.bl true) H
theorem cal_who (D : Dn K mg "_law_whole" s__law_whole ["value", "due"]) (B : Bl mg) : Cal P w K mg base "_law_whole" 1 ["value", "due"] spWho := by
  refine D.cal sc__law_whole (fun vs H Q E h => by obtain ⟨x, rfl, _⟩ := h; rfl) (fun f cdv A outer s H vs Q E hr h => ?_)
  obtain ⟨x, rfl, q⟩ := h
  refine ⟨_, (pss_one (ps_ret (pe_and (pe_callB call_isi rfl B.isinstance (by decide +kernel) (pa_cons (pv 0) (pa_cons (pe_bltn (v := .ty "int") rfl B.int boot_int rfl) pa_nil))) (pe_and (pe_not (pe_callB call_isi rfl B.isinstance (by decide +kernel) (pa_cons (pv 0) (pa_cons (pe_bltn (v := .ty "bool") rfl B.bool boot_bool rfl) pa_nil)))) (pe_one (pe_cmpR op_eq (pv 0) (pv 1) (nomark _))))))), ?_⟩
  walk_at "rd"
  refine isi_mk (.base (.int x)) (b := true) (by decide +kernel) ⟨true, rfl, ?_⟩
  rw [if_pos rfl]
  refine isi_mk (.base (.int x)) (b := false) (by decide +kernel) ⟨false, rfl, ?_⟩
  rw [if_pos (by decide), decide_eq_true trivial]
  exact q
abbrev s__law_same : Stmt := top 26
theorem sc__law_same : FnScope ["one", "two", "k"] ["one", "two"] (defScope s__law_same) := ⟨rfl, rfl, rfl, by decide +kernel, rfl, by decide +kernel, by decide +kernel⟩

def spSaI : Sp := fun vs H Q _ => ∃ x : Int, vs = [.int x, .int x] ∧ Q (.bl true) H
theorem cal_saI (D : Dn K mg "_law_same" s__law_same ["one", "two"]) (B : Bl mg) : Cal P w K mg base "_law_same" 1 ["one", "two"] spSaI := by
  refine D.cal sc__law_same (fun vs H Q E h => by obtain ⟨x, rfl, _⟩ := h; rfl) (fun f cdv A outer s H vs Q E hr h => ?_)
  obtain ⟨x, rfl, q⟩ := h
  refine ⟨_, (pss_cons (ps_if (pt_val (pe_callB call_isi rfl B.isinstance (by decide +kernel) (pa_cons (pv 1) (pa_cons (pe_bltn (v := .ty "tuple") rfl B.tuple boot_tuple rfl) pa_nil)))) pss_never pss_nil)
  (pss_one (ps_ret (pe_and (pe_callB call_isi rfl B.isinstance (by decide +kernel) (pa_cons (pv 0) (pa_cons (pe_bltn (v := .ty "int") rfl B.int boot_int rfl) pa_nil))) (pe_and (pe_not (pe_callB call_isi rfl B.isinstance (by decide +kernel) (pa_cons (pv 0) (pa_cons (pe_bltn (v := .ty "bool") rfl B.bool boot_bool rfl) pa_nil)))) (pe_one (pe_cmpR op_eq (pv 0) (pv 1) (nomark _)))))))), ?_⟩
  rw [CB.rd_seq]
  walk_at "rs"
  refine isi_mk (.base (.int x)) (b := false) (by decide +kernel) ⟨false, rfl, ?_⟩
  rw [if_neg Bool.false_ne_true]
  refine isi_mk (.base (.int x)) (b := true) (by decide +kernel) ⟨true, rfl, ?_⟩
  rw [if_pos rfl]
  refine isi_mk (.base (.int x)) (b := false) (by decide +kernel) ⟨false, rfl, ?_⟩
  rw [if_pos (by decide), decide_eq_true trivial]
  exact q
def spSaT (K : PySem.W.Frag) : Sp := fun vs H Q _ => ∃ (a b : Addr) (n : Nat) (f : Vc), vs = [.ref a, .ref b] ∧ H a = some (.tup ((mk n f).map V.int)) ∧ H b = some (.tup ((mk n f).map V.int)) ∧ n ≤ 100 ∧ ∀ H', Same H H' → Q (.bl true) H'
theorem cal_saT (D : Dn K mg "_law_same" s__law_same ["one", "two"]) (B : Bl mg) (c__law_same : Cal P w K mg base "_law_same" 1 ["one", "two"] spSaI) : Cal P w K mg base "_law_same" 2 ["one", "two"] (spSaT K) := by
  refine D.cal sc__law_same (fun vs H Q E h => by obtain ⟨a, b, n, f, rfl, _⟩ := h; rfl) (fun fa cdv A outer s H vs Q E hr h => ?_)
  obtain ⟨a, b, n, f, rfl, ha, hb, hn, q⟩ := h
  refine ⟨_, (pss_cons (ps_if (pt_val (pe_callB call_isi rfl B.isinstance (by decide +kernel) (pa_cons (pv 1) (pa_cons (pe_bltn (v := .ty "tuple") rfl B.tuple boot_tuple rfl) pa_nil)))) (pss_one (ps_ret (pe_and (pe_callB call_isi rfl B.isinstance (by decide +kernel) (pa_cons (pv 0) (pa_cons (pe_bltn (v := .ty "tuple") rfl B.tuple boot_tuple rfl) pa_nil))) (pe_and (pe_cmpR op_eq (pe_callB cr_lenS rfl B.len (by decide +kernel) (pa_cons (pv 0) pa_nil)) (pe_callB cr_lenS rfl B.len (by decide +kernel) (pa_cons (pv 1) pa_nil)) (nomark _)) (pe_one (pe_callB (cr_all rfl) rfl B.all (by decide +kernel) (pa_cons (pe_lc (own := [("k", 2)]) rfl sc__law_same.nd (pi_range1 rfl B.range (pa_cons (pe_callB cr_lenS rfl B.len (by decide +kernel) (pa_cons (pv 1) pa_nil)) pa_nil)) (blkOk_by (N := ["one", "two", "k"]) (sc := defScope s__law_same) (own := [("k", 2)]) (by decide +kernel)) (fun _ _ _ _ _ => (pg_name (i := 2) sc__law_same.nd rfl (Or.inl rfl))) (fun _ _ _ _ _ => pts_nil) (fun _ _ _ _ _ => (pe_cal c__law_same (hr.mono (by decide)) rfl (pa_cons (pe_ix (ix_tupK (K := K) rfl) (pv 0) (pv 2) (fun _ _ => rfl)) (pa_cons (pe_ix (ix_tupK (K := K) rfl) (pv 1) (pv 2) (fun _ _ => rfl)) pa_nil))))) pa_nil))))))) pss_nil)
  (pss_one (ps_ret (pe_and (pe_callB call_isi rfl B.isinstance (by decide +kernel) (pa_cons (pv 0) (pa_cons (pe_bltn (v := .ty "int") rfl B.int boot_int rfl) pa_nil))) (pe_and (pe_not (pe_callB call_isi rfl B.isinstance (by decide +kernel) (pa_cons (pv 0) (pa_cons (pe_bltn (v := .ty "bool") rfl B.bool boot_bool rfl) pa_nil)))) (pe_one (pe_cmpR op_eq (pv 0) (pv 1) (nomark _)))))))), ?_⟩
  rw [CB.rd_seq]
  walk_at "rs"
  refine isi_mk (.base (.tup hb)) (b := true) (by decide +kernel) ⟨true, rfl, ?_⟩
  rw [if_pos rfl]
  refine isi_mk (.base (.tup ha)) (b := true) (by decide +kernel) ⟨true, rfl, ?_⟩
  rw [if_pos rfl]
  refine ⟨n, .inr ⟨_, SqT.of ha, by rw [List.length_map, mk_len]⟩, n, .inr ⟨_, SqT.of hb, by rw [List.length_map, mk_len]⟩, ?_⟩
  rw [if_pos rfl]
  refine ⟨n, .inr ⟨_, SqT.of hb, by rw [List.length_map, mk_len]⟩, by omega, by omega, ?_⟩
  rw [Int.toNat_natCast]
  refine LcR.p (fun _ => some (V.bl true)) (by omega) ?_ ?_
  · intro i hi H1 s1 M S hM hS
    walk_at "rd"
    rw [Int.zero_add]
    exact ⟨_, SqT.of (s1 _ _ ha), _, atI_mk hi, _, SqT.of (s1 _ _ hb), _, atI_mk hi, f i, rfl, hM _ _ rfl (Same.refl _)⟩
  · intro D1 H1 nD s1 hD
    rw [fm_some (fun _ => V.bl true), show (List.range n).map (fun _ => V.bl true) = ((List.range n).map fun _ => true).map V.bl by rw [List.map_map]; rfl] at hD
    refine ⟨D1, rfl, _, SqL.of hD, ?_⟩
    rw [show ((List.range n).map fun _ => true).all id = true from List.all_eq_true.mpr fun b hb => by
      obtain ⟨_, _, rfl⟩ := List.mem_map.mp hb
      rfl]
    exact q H1 s1
abbrev s__law_row : Stmt := top 27
theorem sc__law_row : FnScope ["state", "n", "most", "k"] ["state", "n"] (defScope s__law_row) := ⟨rfl, rfl, rfl, by decide +kernel, rfl, by decide +kernel, by decide +kernel⟩

def spLR : Sp := fun vs H Q _ => ∃ (st : Addr) (x y : Int) (n : Nat), vs = [.ref st, .int n] ∧ H st = some (.lst [.int x, .int y]) ∧ n ≤ 12 ∧
  ∀ (r : Addr) (f : Vc) (x' y' : Int) (H' : Hp), Bt [st] H H' → H' st = some (.lst [.int x', .int y']) → H' r = some (.tup ((mk n f).map V.int)) → Sup n f → Bd 51 f → Q (.ref r) H'
theorem cal_lr (D : Dn K mg "_law_row" s__law_row ["state", "n"]) (B : Bl mg) (c__law_take : Cal P w K mg base "_law_take" 1 ["state", "m"] spTake) : Cal P w K mg base "_law_row" 2 ["state", "n"] spLR := by
  refine D.cal sc__law_row (fun vs H Q E h => by obtain ⟨st, x, y, n, rfl, _⟩ := h; rfl) (fun f cdv A outer s H vs Q E hr h => ?_)
  obtain ⟨st, x, y, n, rfl, hst, hn, q⟩ := h
  refine ⟨_, (pss_cons (ps_set (i := 2) sc__law_row.nd rfl (Or.inr rfl) (pe_ix ix_list (pe_lst (pa_cons pe_int (pa_cons pe_int (pa_cons pe_int (pa_cons (pe_op op_powI pe_int pe_int) pa_nil))))) (pe_cal c__law_take (hr.mono (by decide)) rfl (pa_cons (pv 0) (pa_cons pe_int pa_nil))) (fun _ _ => rfl)))
  (pss_one (ps_ret (pe_callTy cr_tupOf rfl B.tuple boot_tuple (pa_cons (pe_lc (own := [("k", 3)]) rfl sc__law_row.nd (pi_range1 rfl B.range (pa_cons (pv 1) pa_nil)) (blkOk_by (N := ["state", "n", "most", "k"]) (sc := defScope s__law_row) (own := [("k", 3)]) (by decide +kernel)) (fun _ _ _ _ _ => (pg_name (i := 3) sc__law_row.nd rfl (Or.inl rfl))) (fun _ _ _ _ _ => pts_nil) (fun _ _ _ _ _ => (pe_op op_sub (pe_cal c__law_take (hr.mono (by decide)) rfl (pa_cons (pv 0) (pa_cons (pe_op op_add (pe_op op_mulI pe_int (pv 2)) pe_int) pa_nil))) (pv 2)))) pa_nil))))), ?_⟩
  rw [CB.rd_seq]
  walk_at "rs"
  refine ⟨powI (n := 4) (by decide) (by decide) (by decide) (by decide), by decide, fun p np => ?_⟩
  have sp : st ≠ p := ne_of_none hst np
  refine ⟨st, x, y, 4, rfl, by rw [upd_ne sp]; exact hst, by decide, by decide +kernel, fun v x1 y1 v0 v1 => ?_⟩
  have pick : ∃ m : Int, atI [V.int 1, V.int 5, V.int 100, V.int (10 ^ Int.toNat 15)] v = some (.int m) ∧ 1 ≤ m ∧ m ≤ 1000000000000000 := by
    have c : v = 0 ∨ v = 1 ∨ v = 2 ∨ v = 3 := by omega
    rcases c with rfl | rfl | rfl | rfl <;> exact ⟨_, rfl, by decide, by decide⟩
  obtain ⟨m, em, m1, m2⟩ := pick
  have b1 : Bt [st] H (L2.upd (L2.upd H p (.lst [.int 1, .int 5, .int 100, .int (10 ^ Int.toNat 15)])) st (.lst [.int x1, .int y1])) := (Bt.of (same_upd np)).trans (Bt.upd (by simp))
  have hst1 : (L2.upd (L2.upd H p (.lst [.int 1, .int 5, .int 100, .int (10 ^ Int.toNat 15)])) st (.lst [.int x1, .int y1])) st = some (.lst [.int x1, .int y1]) := upd_same
  have hp1 : (L2.upd (L2.upd H p (.lst [.int 1, .int 5, .int 100, .int (10 ^ Int.toNat 15)])) st (.lst [.int x1, .int y1])) p = some (.lst [.int 1, .int 5, .int 100, .int (10 ^ Int.toNat 15)]) := by rw [upd_ne sp.symm]; exact upd_same
  generalize L2.upd (L2.upd H p (.lst [.int 1, .int 5, .int 100, .int (10 ^ Int.toNat 15)])) st (.lst [.int x1, .int y1]) = H1 at *
  refine ⟨_, v, rfl, SqL.of hp1, _, em, by omega, by omega, ?_⟩
  rw [Int.toNat_natCast]
  refine LcR.w (fun i D zs H5 => ∃ (hs : List Int) (x y : Int), zs = hs.map V.int ∧ hs.length = i ∧ (∀ h ∈ hs, h.natAbs ≤ 1000000000000000) ∧ Bt [st] H1 H5 ∧ H5 st = some (.lst [.int x, .int y]) ∧ H5 D = some (.lst zs) ∧ H1 D = none)
    (fun D nD => ⟨[], x1, y1, rfl, rfl, fun h hh => absurd hh List.not_mem_nil, Bt.of (same_upd nD), same_upd nD _ _ hst1, upd_same, nD⟩) ?_ ?_
  · rintro D i zs H5 hi ⟨hs, x, y, rfl, lh, oh, b5, hst5, hD, nD⟩ N hN
    have Dst : D ≠ st := fun z => by rw [z, hst1] at nD; cases nD
    walk_at "rd"
    refine ⟨mulL (by decide), st, x, y, 2 * m + 1, rfl, hst5, by omega, log_s (by omega) (by omega), fun v x6 y6 v0 v1 => ?_⟩
    refine ⟨v, rfl, hs.map V.int, by rw [upd_ne Dst]; exact hD, by rw [List.length_map]; exact small_size (by omega), hN (hs.map V.int ++ [.int (v - m)]) _ ⟨hs ++ [v - m], x6, y6, by rw [List.map_append]; rfl, by rw [List.length_append, lh]; rfl, fun h hh => ?_, fun b o nb e => ?_, by rw [upd_ne Dst.symm]; exact upd_same, upd_same, nD⟩⟩
    · rcases List.mem_append.mp hh with hh | hh
      · exact oh h hh
      · rw [List.mem_singleton.mp hh]
        omega
    · rw [upd_ne (fun z => by rw [z, nD] at e; cases e), upd_ne (fun z => nb (by simp [z]))]
      exact b5 b o nb e
  · rintro D zs H5 nD ⟨hs, x, y, rfl, lh, oh, b5, hst5, hD, _⟩
    subst lh
    refine ⟨D, rfl, _, .inl ⟨SqL.of hD, fun l nl => q l (sr hs) x y _ ((b1.trans b5).trans (Bt.of (same_upd nl))) (same_upd nl _ _ hst5) (by rw [upd_same, mk_sr]) (sr_sup hs) fun i => ?_⟩⟩
    unfold Sz sr
    rw [List.getD_eq_getElem?_getD]
    cases e : hs[i]? with
    | none => exact Nat.two_pow_pos _
    | some c => exact Nat.lt_of_le_of_lt (oh c (List.mem_of_getElem? e)) (by decide)
abbrev s__law_dot : Stmt := top 28
theorem sc__law_dot : FnScope ["v", "w", "k"] ["v", "w"] (defScope s__law_dot) := ⟨rfl, rfl, rfl, by decide +kernel, rfl, by decide +kernel, by decide +kernel⟩

def spLD : Sp := fun vs H Q _ => ∃ (p q : Addr) (n : Nat) (f g : Vc), vs = [.ref p, .ref q] ∧ H p = some (.tup ((mk n f).map V.int)) ∧ H q = some (.tup ((mk n g).map V.int)) ∧ n ≤ 100 ∧ (∀ i, IntMulOk (f i) (g i)) ∧
  ∀ H', Same H H' → Q (.int (dotS n f g)) H'
theorem cal_ld (D : Dn K mg "_law_dot" s__law_dot ["v", "w"]) (B : Bl mg) : Cal P w K mg base "_law_dot" 1 ["v", "w"] spLD := by
  refine D.cal sc__law_dot (fun vs H Q E h => by obtain ⟨p, q, n, f, g, rfl, _⟩ := h; rfl) (fun fa cdv A outer s H vs Q E hr h => ?_)
  obtain ⟨p, q, n, f, g, rfl, hp, hq, hl, ok, k⟩ := h
  refine ⟨_, (pss_one (ps_ret (pe_callB (cr_sum rfl) rfl B.sum (by decide +kernel) (pa_cons (pe_lc (own := [("k", 2)]) rfl sc__law_dot.nd (pi_range1 rfl B.range (pa_cons (pe_callB cr_lenS rfl B.len (by decide +kernel) (pa_cons (pv 0) pa_nil)) pa_nil)) (blkOk_by (N := ["v", "w", "k"]) (sc := defScope s__law_dot) (own := [("k", 2)]) (by decide +kernel)) (fun _ _ _ _ _ => (pg_name (i := 2) sc__law_dot.nd rfl (Or.inl rfl))) (fun _ _ _ _ _ => pts_nil) (fun _ _ _ _ _ => (pe_op op_mulI (pe_ix (ix_tupK (K := K) rfl) (pv 0) (pv 2) (fun _ _ => rfl)) (pe_ix (ix_tupK (K := K) rfl) (pv 1) (pv 2) (fun _ _ => rfl))))) pa_nil)))), ?_⟩
  walk_at "rd"
  refine ⟨_, .inr ⟨_, SqT.of hp, rfl⟩, by rw [List.length_map, mk_len]; omega, by rw [List.length_map, mk_len]; omega, ?_⟩
  rw [Int.toNat_natCast, List.length_map, mk_len]
  refine LcR.p (fun i => some (V.int (f i * g i))) (by omega) ?_ ?_
  · intro i hi H1 s1 M S hM hS
    walk_at "rd"
    rw [Int.zero_add]
    exact ⟨_, SqT.of (s1 _ _ hp), _, atI_mk hi, _, SqT.of (s1 _ _ hq), _, atI_mk hi, _, rfl, _, rfl, ok i, hM _ _ rfl (Same.refl _)⟩
  · intro D1 H1 nD s1 hD
    rw [fm_some (fun i => V.int (f i * g i)), mk_sum (fun i => f i * g i)] at hD
    exact ⟨D1, rfl, _, SqL.of hD, k H1 s1⟩
theorem sum_cmbF : ∀ {L : List Vc} {c : Nat → Int} {j : Nat}, ((List.range L.length).map fun k => c k * (L.getD k fun _ => 0) j).sum = cmbF c L j
  | [], _, _ => rfl
  | f :: L, c, j => by
    rw [List.length_cons, List.range_succ_eq_map, List.map_cons, List.sum_cons, List.map_map]
    show c 0 * f j + _ = c 0 * f j + cmbF (fun k => c (k + 1)) L j
    congr 1
    exact sum_cmbF (L := L) (c := fun k => c (k + 1))
abbrev s__law_times : Stmt := top 29
theorem sc__law_times : FnScope ["v", "rows", "width", "j", "k"] ["v", "rows", "width"] (defScope s__law_times) := ⟨rfl, rfl, rfl, by decide +kernel, rfl, by decide +kernel, by decide +kernel⟩

def spLT : Sp := fun vs H Q _ => ∃ (p s : Addr) (us : List V) (c : Vc) (A : List Vc) (n : Nat), vs = [.ref p, .ref s, .int n] ∧ H p = some (.tup ((mk A.length c).map V.int)) ∧ H s = some (.lst us) ∧ Rws H n us A ∧ n ≤ 100 ∧ A.length ≤ 100 ∧ (∀ f ∈ A, ∀ i k, IntMulOk (c k) (f i)) ∧
  ∀ (r : Addr) H', Same H H' → H' r = some (.tup ((mk n (cmbF c A)).map V.int)) → Q (.ref r) H'
theorem cal_lt (D : Dn K mg "_law_times" s__law_times ["v", "rows", "width"]) (B : Bl mg) : Cal P w K mg base "_law_times" 1 ["v", "rows", "width"] spLT := by
  refine D.cal sc__law_times (fun vs H Q E h => by obtain ⟨p, s, us, c, A, n, rfl, _⟩ := h; rfl) (fun fa cdv A0 outer s0 H vs Q E hr h => ?_)
  obtain ⟨p, s, us, c, A, n, rfl, hp, hs, hR, hn, hl, ok, q⟩ := h
  have lR := hR.len
  refine ⟨_, (pss_one (ps_ret (pe_callTy cr_tupOf rfl B.tuple boot_tuple (pa_cons (pe_lc (own := [("j", 3)]) rfl sc__law_times.nd (pi_range1 rfl B.range (pa_cons (pv 2) pa_nil)) (blkOk_by (N := ["v", "rows", "width", "j", "k"]) (sc := defScope s__law_times) (own := [("j", 3)]) (by decide +kernel)) (fun _ _ _ _ _ => (pg_name (i := 3) sc__law_times.nd rfl (Or.inr rfl))) (fun _ _ _ _ _ => pts_nil) (fun _ _ _ _ _ => (pe_callB (cr_sumK (K := K) rfl rfl) rfl B.sum (by decide +kernel) (pa_cons (pe_lc (own := [("k", 4)]) rfl sc__law_times.nd (pi_range1 rfl B.range (pa_cons (pe_callB (cr_lenK (K := K) rfl) rfl B.len (by decide +kernel) (pa_cons (pv 1) pa_nil)) pa_nil)) (blkOk_in (N := ["v", "rows", "width", "j", "k"]) (own := [("k", 4)]) rfl (by decide +kernel)) (fun _ _ _ _ _ => (pg_name (i := 4) sc__law_times.nd rfl (Or.inl rfl))) (fun _ _ _ _ _ => pts_nil) (fun _ _ _ _ _ => (pe_op op_mulI (pe_ix (ix_tupK (K := K) rfl) (pv 0) (pv 4) (fun _ _ => rfl)) (pe_ix (ix_tupK (K := K) rfl) (pe_ix (ix_listK (K := K) rfl) (pv 1) (pv 4) (fun _ _ => rfl)) (pv 3) (fun _ _ => rfl))))) pa_nil)))) pa_nil)))), ?_⟩
  walk_at "rd"
  refine ⟨by omega, by omega, ?_⟩
  rw [Int.toNat_natCast]
  refine LcR.p (fun j => some (V.int (cmbF c A j))) (by omega) ?_ ?_
  · intro j hj H3 s3 M S' hM hS'
    walk_at "rd"
    have hR3 := hR.same s3
    refine ⟨_, .inl ⟨_, SqL.of (s3 _ _ hs), rfl⟩, by omega, by omega, ?_⟩
    rw [Int.toNat_natCast, lR, Int.zero_add]
    refine LcR.p (fun k => some (V.int (c k * (A.getD k fun _ => 0) j))) (by omega) ?_ ?_
    · intro k hk H4 s4 M2 S2 hM2 hS2
      obtain ⟨v, hv⟩ : ∃ v, us[k]? = some v := ⟨_, List.getElem?_eq_getElem (by omega)⟩
      obtain ⟨g, hg, pg, rfl, hpg⟩ := (hR3.same s4).get hv
      walk_at "rd"
      rw [Int.zero_add]
      refine ⟨_, SqT.of (s4 _ _ (s3 _ _ hp)), _, atI_mk hk, _, SqL.of (s4 _ _ (s3 _ _ hs)), _, atI_nat hv, pg, rfl, _, SqT.of hpg, _, atI_mk hj, _, rfl, _, rfl, ok g (List.mem_of_getElem? hg) j k, hM2 _ _ ?_ (Same.refl _)⟩
      rw [List.getD_eq_getElem?_getD, hg]
      rfl
    · intro D4 H4 nD4 s4 hD4
      rw [fm_some (fun k => V.int (c k * (A.getD k fun _ => 0) j)), mk_sum (fun k => c k * (A.getD k fun _ => 0) j)] at hD4
      refine ⟨D4, rfl, _, SqL.of hD4, hM _ _ ?_ s4⟩
      rw [sum_cmbF]
  · intro D3 H3 nD3 s3 hD3
    rw [fm_mk] at hD3
    exact ⟨D3, rfl, _, .inl ⟨SqL.of hD3, fun l nl => q l _ (s3.trans (same_upd nl)) upd_same⟩⟩
end

local macro_rules | `(tactic| walk_at "rd") => `(tactic| simp (maxSteps := 2000000) only [CB.rd_var, CB.rd_C, CB.rd_op, CB.rd_un, CB.rd_I, CB.rd_I0, CB.rd_U, CB.rd_Eq, CB.rd_Ne, CB.rd_test, CB.rd_B, CB.rd_and, CB.rd_or, CB.rd_not, CB.rd_andV, CB.rd_orV, CB.rd_notV, CB.rd_if, CB.rd_chain, CB.rd_chain3,
  CB.rd_next, CB.rd_seq, CB.rd_drop, CB.rd_ret, CB.rd_retN, CB.rd_break, CB.rd_cont, CB.rd_ifS, CB.rd_asg, CB.rd_name, CB.rd_gsub, CB.rd_gtup, CB.rd_gcons, CB.rd_gnil, CB.rd_par, CB.rd_aug, CB.rd_ipI, CB.rd_nil, CB.rd_cons, CB.rd_tup, CB.rd_lst, CB.rd_CB, CB.rd_call, CB.rd_callS, CB.rd_ixL, CB.rd_ixT, CB.rd_setL, CB.rd_putS, CB.rd_forZ, CB.rd_lcZ, CB.rd_forE, CB.rd_forEL, CB.rd_lcE, CB.rd_isqrt, CB.rd_sum, CB.rd_append, CB.rd_forL, CB.rd_forT, CB.rd_forR1, CB.rd_forR2, CB.rd_forR3, CB.rd_lcL, CB.rd_lcT, CB.rd_lcR1, CB.rd_lcR2, CB.rd_yes, CB.rd_sl, CB.rd_noPart, CB.rd_part, CB.rd_slL, CB.rd_wipe0, CB.rd_rep, CB.rd_tupOf, CB.rd_lenS, CB.rd_gcd, CB.rd_wipe1, CB.rd_sorted3, CB.rd_any, CB.rd_all, CB.rd_ext, CB.rd_glst, CB.rd_sortedM, CB.rd_minD, CB.rd_indexD, CB.rd_pop, CB.rd_dnew, CB.rd_dget, CB.rd_dget2, CB.rd_dput, CB.rd_dm, CB.rd_anyI, CB.rd_ixDC, CB.rd_inDC, CB.rd_cat, CB.rd_lcZR, CB.rd_revR1, CB.rd_max2, CB.rd_forRv, CB.rd_ins, CB.rd_revT, CB.rd_listOf, CB.rd_inI, CB.rd_idxI,
  L2.start, List.map_cons, List.map_nil, List.length_cons, List.length_nil, Nat.reduceAdd, Nat.reduceSub, List.replicate_succ, List.replicate_zero,
  V.int.injEq, V.ref.injEq, V.bl.injEq, V.str.injEq, Option.some.injEq, List.cons.injEq, exists_and_left, exists_eq_left', exists_eq_left, reduceCtorEq, false_and, and_false, or_false, false_or, exists_false, exists_const, and_assoc, true_and, and_true,
  CB.scal_int, CB.scal_str, CB.dec_ii, CB.ite_dec, CB.ite_ndec, List.getElem?_cons_zero, List.getElem?_cons_succ, List.set_cons_zero, List.set_cons_succ, List.append_nil, List.cons_append, List.nil_append, if_true, if_false, Bool.false_eq_true, Bool.not_true, Bool.not_false, CB.K_nox, CB.K_cxOf, eq_self])
local macro_rules | `(tactic| walk_at "rs") => `(tactic| simp (maxSteps := 2000000) only [CB.rd_var, CB.rd_C, CB.rd_op, CB.rd_un, CB.rd_I, CB.rd_I0, CB.rd_U, CB.rd_Eq, CB.rd_Ne, CB.rd_test, CB.rd_B, CB.rd_and, CB.rd_or, CB.rd_not, CB.rd_andV, CB.rd_orV, CB.rd_notV, CB.rd_if, CB.rd_chain, CB.rd_chain3,
  CB.rd_next, CB.rd_drop, CB.rd_ret, CB.rd_retN, CB.rd_break, CB.rd_cont, CB.rd_ifS, CB.rd_asg, CB.rd_name, CB.rd_gsub, CB.rd_gtup, CB.rd_gcons, CB.rd_gnil, CB.rd_par, CB.rd_aug, CB.rd_ipI, CB.rd_nil, CB.rd_cons, CB.rd_tup, CB.rd_lst, CB.rd_CB, CB.rd_call, CB.rd_callS, CB.rd_ixL, CB.rd_ixT, CB.rd_setL, CB.rd_putS, CB.rd_forZ, CB.rd_lcZ, CB.rd_forE, CB.rd_forEL, CB.rd_lcE, CB.rd_isqrt, CB.rd_sum, CB.rd_append, CB.rd_forL, CB.rd_forT, CB.rd_forR1, CB.rd_forR2, CB.rd_forR3, CB.rd_lcL, CB.rd_lcT, CB.rd_lcR1, CB.rd_lcR2, CB.rd_yes, CB.rd_sl, CB.rd_noPart, CB.rd_part, CB.rd_slL, CB.rd_wipe0, CB.rd_rep, CB.rd_tupOf, CB.rd_lenS, CB.rd_gcd, CB.rd_wipe1, CB.rd_sorted3, CB.rd_any, CB.rd_all, CB.rd_ext, CB.rd_glst, CB.rd_sortedM, CB.rd_minD, CB.rd_indexD, CB.rd_pop, CB.rd_dnew, CB.rd_dget, CB.rd_dget2, CB.rd_dput, CB.rd_dm, CB.rd_anyI, CB.rd_ixDC, CB.rd_inDC, CB.rd_cat, CB.rd_lcZR, CB.rd_revR1, CB.rd_max2, CB.rd_forRv, CB.rd_ins, CB.rd_revT, CB.rd_listOf, CB.rd_inI, CB.rd_idxI,
  L2.start, List.map_cons, List.map_nil, List.length_cons, List.length_nil, Nat.reduceAdd, Nat.reduceSub, List.replicate_succ, List.replicate_zero,
  V.int.injEq, V.ref.injEq, V.bl.injEq, V.str.injEq, Option.some.injEq, List.cons.injEq, exists_and_left, exists_eq_left', exists_eq_left, reduceCtorEq, false_and, and_false, or_false, false_or, exists_false, exists_const, and_assoc, true_and, and_true,
  CB.scal_int, CB.scal_str, CB.dec_ii, CB.ite_dec, CB.ite_ndec, List.getElem?_cons_zero, List.getElem?_cons_succ, List.set_cons_zero, List.set_cons_succ, List.append_nil, List.cons_append, List.nil_append, if_true, if_false, Bool.false_eq_true, Bool.not_true, Bool.not_false, CB.K_nox, CB.K_cxOf, eq_self])

local macro_rules | `(tactic| walk_at "nx") => `(tactic| (show tSeq _ _ _ _ _; rw [CB.rd_seq]; walk_at "rs"))


section
variable {P : Program} {w : World} {K : PySem.W.Frag} {mg : Str → Option Value} {base : Heap} {CM CR : Addr}
theorem cat2 {H : Hp} {a b : Addr} {xs ys : List V} {Q : VK} (ha : H a = some (.tup xs)) (hb : H b = some (.tup ys)) (hl : xs.length + ys.length ≤ 100000) (q : ∀ p H', Same H H' → H' p = some (.tup (xs ++ ys)) → Q (.ref p) H') : rCatA K (.ref a) (.ref b) H Q := cat_any ha hb hl q
theorem Rws.bt0 {st : Addr} {l : List V} {H H' : Hp} {n : Nat} {vs : List V} {fs : List Vc} (h : Rws H n vs fs) (s : Bt [st] H H') (hst : H st = some (.lst l)) : Rws H' n vs fs := by
  induction h with
  | nil => exact .nil
  | cons a _ ih => exact .cons (a.bt (l := []) s fun b hb => ⟨l, by rw [List.mem_singleton.mp hb]; exact hst⟩) ih
theorem its_app {H : Hp} {xs ys : List V} {ts us : List String} (h : Its K H xs ts) (h' : Its K H ys us) : Its K H (xs ++ ys) (ts ++ us) := by
  refine ⟨by rw [List.length_append, List.length_append, h.1, h'.1], fun i x t hx ht => ?_⟩
  rcases Nat.lt_or_ge i xs.length with c | c
  · rw [List.getElem?_append_left c] at hx
    rw [List.getElem?_append_left (by rw [h.1]; exact c)] at ht
    exact h.2 i x t hx ht
  · rw [List.getElem?_append_right c] at hx
    rw [List.getElem?_append_right (by rw [h.1]; exact c), h.1] at ht
    exact h'.2 _ x t hx ht
theorem its1 {H : Hp} {v : V} {T : String} (h : ∀ H', Same H H' → TyX K H' v (.type T)) (hT : T ∈ kinds) : Its K H [v] [T] := by
  refine ⟨rfl, fun i x t hx ht => ?_⟩
  match i, hx, ht with
  | 0, hx, ht => cases hx; cases ht; exact ⟨h, hT⟩
  | n + 1, hx, ht => simp at hx
theorem its_ints {H : Hp} : ∀ ns : List Int, Its K H (ns.map V.int) (ns.map fun _ => "int") := fun ns => by
  refine ⟨by rw [List.length_map, List.length_map], fun i x t hx ht => ?_⟩
  rw [List.getElem?_map] at hx ht
  obtain ⟨a, _, rfl⟩ := Option.map_eq_some_iff.mp hx
  obtain ⟨b, _, rfl⟩ := Option.map_eq_some_iff.mp ht
  exact ⟨fun _ _ => .base (.int a), by decide⟩
theorem all_ints (ns : List Int) : (ns.map fun _ => "int").all (fun x => x == "int") = true := List.all_eq_true.mpr fun b hb => by
  obtain ⟨_, _, rfl⟩ := List.mem_map.mp hb
  rfl
theorem row_ints {H : Hp} {p : Addr} {ns : List Int} {k : Nat} {Q : VK} {E : XK} (hp : H p = some (.tup (ns.map V.int))) (hl : ns.length ≤ 100) (q : ∀ H', Same H H' → Q (.bl (decide (ns.length = k))) H') : spRow K [.ref p, .int k] H Q E := by
  refine ⟨.ref p, k, rfl, .inr ⟨p, _, _, rfl, hp, its_ints ns, by rw [List.length_map]; omega, fun H' s => ?_⟩⟩
  rw [all_ints, Bool.and_true, List.length_map]
  exact q H' s
theorem row_not {H : Hp} {v : V} {k : Nat} {T : String} {Q : VK} {E : XK} (ty : TyX K H v (.type T)) (hT : T ∈ kinds) (ne : (T == "tuple") = false) (q : Q (.bl false) H) : spRow K [v, .int k] H Q E := ⟨v, k, rfl, .inl ⟨⟨T, ty, hT, ne⟩, q⟩⟩
def lRs (rs : List (List Int)) : PyData := .list (rs.map dIs)
theorem shaped_lrows (ts : List (List Int)) : SeqAt.shaped (lRs ts) = true := by
  unfold SeqAt.shaped lRs
  have a : PyData.canLay0 (.list (ts.map dIs)) = true := lay_rows ts
  have b : PyData.depth (.list (ts.map dIs)) ≤ 64 := by
    have := depth_rows ts
    show PyData.depthAll (ts.map dIs) + 1 ≤ 64
    omega
  rw [a, decide_eq_true b]
  rfl
theorem eqv_lrows (xs ys : List (List Int)) : PyData.eqv (lRs xs) (lRs ys) = decide (xs = ys) := eqvAll_rows xs ys
abbrev s__law_plain_holds : Stmt := top 30
theorem sc__law_plain_holds : FnScope ["state", "n", "width", "v", "w", "c", "one", "given", "due", "values", "at", "k"] ["state"] (defScope s__law_plain_holds) := ⟨rfl, rfl, rfl, by decide +kernel, rfl, by decide +kernel, by decide +kernel⟩

def spPH : Sp := fun vs H Q _ => ∃ (st : Addr) (x y : Int), vs = [.ref st] ∧ H st = some (.lst [.int x, .int y]) ∧
  ∀ (x' y' : Int) (H' : Hp), H' st = some (.lst [.int x', .int y']) → Q (.bl true) H'
theorem cal_ph (D : Dn K mg "_law_plain_holds" s__law_plain_holds ["state"]) (B : Bl mg) (c__law_take : Cal P w K mg base "_law_take" 1 ["state", "m"] spTake) (c__law_row : Cal P w K mg base "_law_row" 2 ["state", "n"] spLR) (c_scaled : Cal P w K mg base "scaled" 1 ["v", "c"] spSc) (c__law_plain : Cal P w K mg base "_law_plain" 4 ["value"] (spPl K)) (c__law_same : Cal P w K mg base "_law_same" 2 ["one", "two"] (spSaT K)) (c_add : Cal P w K mg base "add" 1 ["v", "w"] spAdd) (c__law_times : Cal P w K mg base "_law_times" 1 ["v", "rows", "width"] spLT) (c_moved : Cal P w K mg base "moved" 2 ["x", "rows", "width"] (spMv K)) (c__law_dot : Cal P w K mg base "_law_dot" 1 ["v", "w"] spLD) (c_dot : Cal P w K mg base "dot" 1 ["v", "w"] spDot) (c__law_whole : Cal P w K mg base "_law_whole" 1 ["value", "due"] spWho) (c_is_row : Cal P w K mg base "is_row" 2 ["value", "n"] (spRow K)) (c__law_says : Cal P w K mg base "_law_says" 1 ["value", "due"] spSays) :
    Cal P w K mg base "_law_plain_holds" 5 ["state"] spPH := by
  refine D.cal sc__law_plain_holds (fun vs H Q E h => by obtain ⟨st, x, y, rfl, _⟩ := h; rfl) (fun fa cdv A outer s H vs Q E hr h => ?_)
  obtain ⟨st, x, y, rfl, hst, q⟩ := h
  refine ⟨_, (pss_cons (ps_asg (pe_tup (pa_cons (pe_cal c__law_take (hr.mono (by decide)) rfl (pa_cons (pv 0) (pa_cons pe_int pa_nil))) (pa_cons (pe_cal c__law_take (hr.mono (by decide)) rfl (pa_cons (pv 0) (pa_cons pe_int pa_nil))) pa_nil))) (pg_tup rfl (pgs_cons (pg_name (i := 1) sc__law_plain_holds.nd rfl (Or.inl rfl)) (pgs_cons (pg_name (i := 2) sc__law_plain_holds.nd rfl (Or.inr rfl)) pgs_nil))))
  (pss_cons (ps_asg (pe_tup (pa_cons (pe_cal c__law_row (hr.mono (by decide)) rfl (pa_cons (pv 0) (pa_cons (pv 1) pa_nil))) (pa_cons (pe_cal c__law_row (hr.mono (by decide)) rfl (pa_cons (pv 0) (pa_cons (pv 1) pa_nil))) pa_nil))) (pg_tup rfl (pgs_cons (pg_name (i := 3) sc__law_plain_holds.nd rfl (Or.inr rfl)) (pgs_cons (pg_name (i := 4) sc__law_plain_holds.nd rfl (Or.inr rfl)) pgs_nil))))
  (pss_cons (ps_set (i := 5) sc__law_plain_holds.nd rfl (Or.inr rfl) (pe_ix ix_tup (pe_cal c__law_row (hr.mono (by decide)) rfl (pa_cons (pv 0) (pa_cons pe_int pa_nil))) pe_int (fun _ _ => rfl)))
  (pss_cons (ps_if (PW.pt (pw_or (pt_not (pt_val (pe_cal c__law_same (hr.mono (by decide)) rfl (pa_cons (pe_cal c__law_plain (hr.mono (by decide)) rfl (pa_cons (pe_cal c_add (hr.mono (by decide)) rfl (pa_cons (pv 3) (pa_cons (pv 4) pa_nil))) pa_nil)) (pa_cons (pe_callTy cr_tupOf rfl B.tuple boot_tuple (pa_cons (pe_lc (own := [("k", 11)]) rfl sc__law_plain_holds.nd (pi_range1 rfl B.range (pa_cons (pv 1) pa_nil)) (blkOk_by (N := ["state", "n", "width", "v", "w", "c", "one", "given", "due", "values", "at", "k"]) (sc := defScope s__law_plain_holds) (own := [("k", 11)]) (by decide +kernel)) (fun _ _ _ _ _ => (pg_name (i := 11) sc__law_plain_holds.nd rfl (Or.inl rfl))) (fun _ _ _ _ _ => pts_nil) (fun _ _ _ _ _ => (pe_op op_add (pe_ix (ix_tupK (K := K) rfl) (pv 3) (pv 11) (fun _ _ => rfl)) (pe_ix (ix_tupK (K := K) rfl) (pv 4) (pv 11) (fun _ _ => rfl))))) pa_nil)) pa_nil))))) (pw_or1 (pt_not (pt_val (pe_cal c__law_same (hr.mono (by decide)) rfl (pa_cons (pe_cal c__law_plain (hr.mono (by decide)) rfl (pa_cons (pe_cal c_scaled (hr.mono (by decide)) rfl (pa_cons (pv 3) (pa_cons (pv 5) pa_nil))) pa_nil)) (pa_cons (pe_callTy cr_tupOf rfl B.tuple boot_tuple (pa_cons (pe_lc (own := [("k", 11)]) rfl sc__law_plain_holds.nd (pi_range1 rfl B.range (pa_cons (pv 1) pa_nil)) (blkOk_by (N := ["state", "n", "width", "v", "w", "c", "one", "given", "due", "values", "at", "k"]) (sc := defScope s__law_plain_holds) (own := [("k", 11)]) (by decide +kernel)) (fun _ _ _ _ _ => (pg_name (i := 11) sc__law_plain_holds.nd rfl (Or.inl rfl))) (fun _ _ _ _ _ => pts_nil) (fun _ _ _ _ _ => (pe_op op_mulI (pv 5) (pe_ix (ix_tupK (K := K) rfl) (pv 3) (pv 11) (fun _ _ => rfl))))) pa_nil)) pa_nil)))))))) (pss_one (ps_ret pe_bl)) pss_nil)
  (pss_cons (ps_setLc (i := 6) (own := [("k", 11)]) rfl sc__law_plain_holds.nd rfl rfl (sw_true rfl rfl rfl (by decide +kernel)) (pi_range1 rfl B.range (pa_cons (pv 1) pa_nil)) (blkOk_by (N := ["state", "n", "width", "v", "w", "c", "one", "given", "due", "values", "at", "k"]) (sc := defScope s__law_plain_holds) (own := [("k", 11)]) (by decide +kernel)) (fun _ _ _ _ _ => (pg_name (i := 11) sc__law_plain_holds.nd rfl (Or.inl rfl))) (fun _ _ _ _ _ => pts_nil) (fun _ _ _ _ _ => (pe_cal c__law_row (hr.mono (by decide)) rfl (pa_cons (pv 0) (pa_cons (pv 2) pa_nil)))))
  (pss_cons (ps_set (i := 7) sc__law_plain_holds.nd rfl (Or.inl rfl) (pe_callTy cr_tupOf rfl B.tuple boot_tuple (pa_cons (pv 6) pa_nil)))
  (pss_cons (ps_if (pt_cmpR op_eq (pe_cal c__law_take (hr.mono (by decide)) rfl (pa_cons (pv 0) (pa_cons pe_int pa_nil))) pe_int (nomark _)) (pss_one (ps_set (i := 7) sc__law_plain_holds.nd rfl (Or.inl rfl) (pe_callTy call_list_of rfl B.list boot_list (pa_cons (pv 6) pa_nil)))) pss_nil)
  (pss_cons (ps_set (i := 8) sc__law_plain_holds.nd rfl (Or.inl rfl) (pe_cal c__law_times (hr.mono (by decide)) rfl (pa_cons (pv 3) (pa_cons (pv 6) (pa_cons (pv 2) pa_nil)))))
  (pss_cons (ps_if (PW.pt (pw_or (pt_not (pt_val (pe_cal c__law_whole (hr.mono (by decide)) rfl (pa_cons (pe_cal c__law_plain (hr.mono (by decide)) rfl (pa_cons (pe_cal c_dot (hr.mono (by decide)) rfl (pa_cons (pv 3) (pa_cons (pv 4) pa_nil))) pa_nil)) (pa_cons (pe_cal c__law_dot (hr.mono (by decide)) rfl (pa_cons (pv 3) (pa_cons (pv 4) pa_nil))) pa_nil))))) (pw_or (pt_not (pt_val (pe_cal c__law_same (hr.mono (by decide)) rfl (pa_cons (pe_cal c__law_plain (hr.mono (by decide)) rfl (pa_cons (pe_cal c_moved (hr.mono (by decide)) rfl (pa_cons (pv 3) (pa_cons (pv 7) (pa_cons (pv 2) pa_nil)))) pa_nil)) (pa_cons (pv 8) pa_nil))))) (pw_or1 (pt_cmpR (op_neD hr.units) (pe_callTy call_list_of rfl B.list boot_list (pa_cons (pv 7) pa_nil)) (pv 6) (nomark _)))))) (pss_one (ps_ret pe_bl)) pss_nil)
  (pss_cons (ps_if (PW.pt (pw_or (pt_cmpR op_notBl (pe_cal c_is_row (hr.mono (by decide)) rfl (pa_cons (pv 3) (pa_cons (pv 1) pa_nil))) pe_bl (nomark _)) (pw_or (pt_cmpR op_notBl (pe_cal c_is_row (hr.mono (by decide)) rfl (pa_cons (pe_callTy call_list_of rfl B.list boot_list (pa_cons (pv 3) pa_nil)) (pa_cons (pv 1) pa_nil))) pe_bl (nomark _)) (pw_or (pt_cmpR op_notBl (pe_cal c_is_row (hr.mono (by decide)) rfl (pa_cons (pe_op op_catA (pv 3) (pe_tup (pa_cons pe_int pa_nil))) (pa_cons (pv 1) pa_nil))) pe_bl (nomark _)) (pw_or1 (pt_cmpR op_notBl (pe_cal c_is_row (hr.mono (by decide)) rfl (pa_cons (pv 3) (pa_cons (pe_op op_add (pv 1) pe_int) pa_nil))) pe_bl (nomark _))))))) (pss_one (ps_ret pe_bl)) pss_nil)
  (pss_cons (ps_if (PW.pt (pw_or (pt_cmpR op_notBl (pe_cal c_is_row (hr.mono (by decide)) rfl (pa_cons (pe_op op_repS pe_str (pv 1)) (pa_cons (pv 1) pa_nil))) pe_bl (nomark _)) (pw_or1 (pt_cmpR op_notBl (pe_cal c_is_row (hr.mono (by decide)) rfl (pa_cons pe_non (pa_cons (pv 1) pa_nil))) pe_bl (nomark _))))) (pss_one (ps_ret pe_bl)) pss_nil)
  (pss_cons (ps_set (i := 9) sc__law_plain_holds.nd rfl (Or.inl rfl) (pe_lst (pa_cons pe_non (pa_cons pe_bl (pa_cons pe_bl (pa_cons pe_str (pa_cons (pe_tup (pa_cons pe_int pa_nil)) (pa_cons (pe_lst (pa_cons pe_int pa_nil)) (pa_cons (pe_tup pa_nil) (pa_cons pe_int (pa_cons (pe_un un_neg pe_int) pa_nil)))))))))))
  (pss_cons (ps_set (i := 10) sc__law_plain_holds.nd rfl (Or.inl rfl) (pe_cal c__law_take (hr.mono (by decide)) rfl (pa_cons (pv 0) (pa_cons pe_int pa_nil))))
  (pss_cons (ps_if (pt_cmpR op_eq (pv 1) pe_int (nomark _)) (pss_one (ps_ret pe_bl)) pss_nil)
  (pss_cons (ps_set (i := 11) sc__law_plain_holds.nd rfl (Or.inl rfl) (pe_cal c__law_take (hr.mono (by decide)) rfl (pa_cons (pv 0) (pa_cons (pv 1) pa_nil))))
  (pss_one (ps_ret (pe_cal c__law_says (hr.mono (by decide)) rfl (pa_cons (pe_cal c_is_row (hr.mono (by decide)) rfl (pa_cons (pe_op op_catA (pe_op op_catA (pe_slice sl_tupA (pv 3) po_none (po_some (pv 11))) (pe_tup (pa_cons (pe_ix ix_list (pv 9) (pv 10) (fun _ _ => rfl)) pa_nil))) (pe_slice sl_tupA (pv 3) (po_some (pe_op op_add (pv 11) pe_int)) po_none)) (pa_cons (pv 1) pa_nil))) (pa_cons (pe_cmpR op_gt (pv 10) pe_int (nomark _)) pa_nil)))))))))))))))))))), ?_⟩
  refine seq_cut (fun σ H1 => ∃ (n m : Nat) (x1 y1 : Int), σ = [some (.ref st), some (.int n), some (.int m), none, none, none, none, none, none, none, none, none] ∧ H1 st = some (.lst [.int x1, .int y1]) ∧ n ≤ 12 ∧ m ≤ 12) (fun R hR => ?_) ?_
  · walk_at "rs"
    refine ⟨st, x, y, 13, rfl, hst, by decide, by decide +kernel, fun a x1 y1 a0 a1 => ?_⟩
    refine ⟨st, x1, y1, 13, rfl, upd_same, by decide, by decide +kernel, fun b x2 y2 b0 b1 => ⟨by decide, fun p np => ?_⟩⟩
    obtain ⟨n, rfl⟩ : ∃ n : Nat, a = (n : Int) := ⟨a.toNat, by omega⟩
    obtain ⟨m, rfl⟩ : ∃ m : Nat, b = (m : Int) := ⟨b.toNat, by omega⟩
    refine ⟨_, SqT.of upd_same, rfl, _, _, rfl, _, _, rfl, rfl, hR _ _ ⟨n, m, x2, y2, rfl, ?_, by omega, by omega⟩⟩
    rw [upd_ne (ne_of_none upd_same np)]
    exact upd_same
  rintro σ H1 ⟨n, m, x1, y1, rfl, hst1, n12, m12⟩
  refine seq_cut (fun σ H2 => ∃ (pv pw : Addr) (v u : Vc) (x2 y2 : Int), σ = [some (.ref st), some (.int n), some (.int m), some (.ref pv), some (.ref pw), none, none, none, none, none, none, none] ∧ H2 st = some (.lst [.int x2, .int y2]) ∧ H2 pv = some (.tup ((mk n v).map V.int)) ∧ H2 pw = some (.tup ((mk n u).map V.int)) ∧ Sup n v ∧ Sup n u ∧ Bd 51 v ∧ Bd 51 u) (fun R hR => ?_) ?_
  · walk_at "rs"
    refine ⟨st, x1, y1, n, rfl, hst1, n12, fun pv v x2 y2 H2 b2 hst2 hv2 sv bv => ?_⟩
    refine ⟨st, x2, y2, n, rfl, hst2, n12, fun pw u x3 y3 H3 b3 hst3 hu3 su bu => ⟨by decide, fun p np => ?_⟩⟩
    have pvst : pv ∉ [st] := fun z => by rw [List.mem_singleton.mp z, hst2] at hv2; cases hv2
    have hv3 := b3 pv _ pvst hv2
    have sp : Same H3 (L2.upd H3 p (.tup [.ref pv, .ref pw])) := same_upd np
    exact ⟨_, SqT.of upd_same, rfl, _, _, rfl, _, _, rfl, rfl, hR _ _ ⟨pv, pw, v, u, x3, y3, rfl, sp _ _ hst3, sp _ _ hv3, sp _ _ hu3, sv, su, bv, bu⟩⟩
  rintro σ H2 ⟨pv, pw, v, u, x2, y2, rfl, hst2, hv2, hu2, sv, su, bv, bu⟩
  have pvst : pv ∉ [st] := fun z => by rw [List.mem_singleton.mp z, hst2] at hv2; cases hv2
  have pwst : pw ∉ [st] := fun z => by rw [List.mem_singleton.mp z, hst2] at hu2; cases hu2
  refine seq_cut (fun σ H3 => ∃ (c : Int) (x3 y3 : Int), σ = [some (.ref st), some (.int n), some (.int m), some (.ref pv), some (.ref pw), some (.int c), none, none, none, none, none, none] ∧ H3 st = some (.lst [.int x3, .int y3]) ∧ H3 pv = some (.tup ((mk n v).map V.int)) ∧ H3 pw = some (.tup ((mk n u).map V.int)) ∧ Sz 51 c) (fun R hR => ?_) ?_
  · walk_at "rs"
    refine ⟨st, x2, y2, 1, rfl, hst2, by decide, fun pc c x3 y3 H3 b3 hst3 hc3 sc bc => ?_⟩
    exact ⟨pc, rfl, _, SqT.of hc3, _, atI_mk (n := 1) (i := 0) (by decide), hR _ _ ⟨c 0, x3, y3, rfl, hst3, b3 _ _ pvst hv2, b3 _ _ pwst hu2, bc 0⟩⟩
  rintro σ H3 ⟨c, x3, y3, rfl, hst3, hv3, hu3, bc⟩
  have okc : ∀ i, IntMulOk c (v i) := fun i => bc.ok (bv i) (by decide) (by decide)
  refine seq_cut (fun σ H4 => σ = [some (.ref st), some (.int n), some (.int m), some (.ref pv), some (.ref pw), some (.int c), none, none, none, none, none, none] ∧ Same H3 H4) (fun R hR => ?_) ?_
  · walk_at "rs"
    refine ⟨pv, pw, n, v, u, rfl, hv3, hu3, by omega, fun r H4 s4 nr4 hr4 => ?_⟩
    refine .inr (.inl ⟨r, mk n fun i => v i + u i, rfl, SqT.of hr4, by rw [mk_len]; omega, fun p5 H5 s5 np5 hp5 => ?_⟩)
    refine ⟨by omega, by omega, ?_⟩
    rw [Int.toNat_natCast]
    have s35 := s4.trans s5
    refine LcR.p (fun i => some (V.int (v i + u i))) (by omega) ?_ ?_
    · intro i hi H6 s6 M S hM hS
      walk_at "rd"
      rw [Int.zero_add]
      exact ⟨_, SqT.of (s6 _ _ (s35 _ _ hv3)), _, atI_mk hi, _, SqT.of (s6 _ _ (s35 _ _ hu3)), _, atI_mk hi, _, rfl, _, rfl, hM _ _ rfl (Same.refl _)⟩
    · intro D6 H6 nD6 s6 hD6
      rw [fm_mk (fun i => v i + u i)] at hD6
      refine ⟨D6, rfl, _, .inl ⟨SqL.of hD6, fun l nl => ?_⟩⟩
      refine ⟨p5, l, n, fun i => v i + u i, rfl, same_upd nl _ _ (s6 _ _ hp5), upd_same, by omega, fun H7 s7 => ⟨true, rfl, ?_⟩⟩
      rw [if_neg (by decide)]
      have s37 : Same H3 H7 := s35.trans (s6.trans ((same_upd nl).trans s7))
      refine ⟨pv, n, v, c, rfl, s37 _ _ hv3, by omega, okc, fun r8 H8 s8 nr8 hr8 => ?_⟩
      refine .inr (.inl ⟨r8, mk n fun i => c * v i, rfl, SqT.of hr8, by rw [mk_len]; omega, fun p9 H9 s9 np9 hp9 => ?_⟩)
      have s39 : Same H3 H9 := s37.trans (s8.trans s9)
      refine ⟨by omega, by omega, ?_⟩
      refine LcR.p (fun i => some (V.int (c * v i))) (by omega) ?_ ?_
      · intro i hi H10 s10 M S hM hS
        walk_at "rd"
        rw [Int.zero_add]
        exact ⟨_, SqT.of (s10 _ _ (s39 _ _ hv3)), _, atI_mk hi, _, rfl, okc i, hM _ _ rfl (Same.refl _)⟩
      · intro D10 H10 nD10 s10 hD10
        rw [fm_mk (fun i => c * v i)] at hD10
        refine ⟨D10, rfl, _, .inl ⟨SqL.of hD10, fun l nl => ?_⟩⟩
        refine ⟨p9, l, n, fun i => c * v i, rfl, same_upd nl _ _ (s10 _ _ hp9), upd_same, by omega, fun H11 s11 => ⟨true, rfl, ?_⟩⟩
        rw [if_neg (by decide)]
        exact hR _ _ ⟨rfl, s39.trans (s10.trans ((same_upd nl).trans s11))⟩
  rintro σ H4 ⟨rfl, s4⟩
  replace hst4 := s4 _ _ hst3
  replace hv4 := s4 _ _ hv3
  replace hu4 := s4 _ _ hu3
  refine seq_cut (fun σ H5 => ∃ (po : Addr) (us : List V) (A : List Vc) (x5 y5 : Int), σ = [some (.ref st), some (.int n), some (.int m), some (.ref pv), some (.ref pw), some (.int c), some (.ref po), none, none, none, none, none] ∧ Bt [st] H4 H5 ∧ H5 st = some (.lst [.int x5, .int y5]) ∧ po ≠ st ∧ H5 po = some (.lst us) ∧ A.length = n ∧ Rws H5 m us A ∧ ∀ f ∈ A, Sup m f ∧ Bd 51 f) (fun R hR => ?_) ?_
  · walk_at "rs"
    refine ⟨by omega, by omega, ?_⟩
    rw [Int.toNat_natCast]
    refine LcR.w (fun i D zs H5 => ∃ (A : List Vc) (x y : Int), A.length = i ∧ zs.length = i ∧ Rws H5 m zs A ∧ (∀ f ∈ A, Sup m f ∧ Bd 51 f) ∧ Bt [st] H4 H5 ∧ H5 st = some (.lst [.int x, .int y]) ∧ H5 D = some (.lst zs) ∧ H4 D = none)
      (fun D nD => ⟨[], _, _, rfl, rfl, .nil, fun f hf => absurd hf List.not_mem_nil, Bt.of (same_upd nD), same_upd nD _ _ hst4, upd_same, nD⟩) ?_ ?_
    · rintro D i zs H5 hi ⟨A, x, y, lA, lz, hA, oA, b5, hst5, hD, nD⟩ N hN
      have Dst : D ≠ st := fun z => by rw [z, hst4] at nD; cases nD
      walk_at "rd"
      refine ⟨st, x, y, m, rfl, hst5, m12, fun r f x6 y6 H6 b6 hst6 hr6 sf bf => ?_⟩
      have hD6 := b6 _ _ (by simpa using Dst) hD
      refine ⟨zs, hD6, small_size (by omega), hN (zs ++ [.ref r]) _ ⟨A ++ [f], x6, y6, by rw [List.length_append, lA]; rfl, by rw [List.length_append, lz]; rfl, ((hA.bt0 b6 hst5).updL hD6).app (.cons (Rw.updL ⟨r, rfl, hr6⟩ hD6) .nil), fun g hg => ?_, fun b o nb e => ?_, by rw [upd_ne Dst.symm]; exact hst6, upd_same, nD⟩⟩
      · rcases List.mem_append.mp hg with hg | hg
        · exact oA g hg
        · rw [List.mem_singleton.mp hg]; exact ⟨sf, bf⟩
      · rw [upd_ne (fun z => by rw [z, nD] at e; cases e)]
        exact b6 b o nb (b5 b o nb e)
    · rintro D zs H5 nD ⟨A, x, y, lA, lz, hA, oA, b5, hst5, hD, _⟩
      exact hR _ _ ⟨D, zs, A, x, y, rfl, b5, hst5, (fun z => by rw [z, hst4] at nD; cases nD), hD, lA, hA, oA⟩
  rintro σ H5 ⟨po, us, A, x5, y5, rfl, b5, hst5, post, hpo5, lA, hA5, oA⟩
  have hv5 := b5 _ _ pvst hv4
  have hu5 := b5 _ _ pwst hu4
  refine seq_cut (fun σ H6 => ∃ (pg : Addr), σ = [some (.ref st), some (.int n), some (.int m), some (.ref pv), some (.ref pw), some (.int c), some (.ref po), some (.ref pg), none, none, none, none] ∧ Same H5 H6 ∧ H6 pg = some (.tup us)) (fun R2 hR2 => ?_) ?_
  · walk_at "rs"
    exact ⟨us, .inl ⟨SqL.of hpo5, fun l nl => hR2 _ _ ⟨l, rfl, same_upd nl, upd_same⟩⟩⟩
  rintro σ H6 ⟨pt, rfl, s6, hpt6⟩
  have hst6 := s6 _ _ hst5
  have ptst : pt ≠ st := ne_of hpt6 hst6 (by intro z; cases z)
  refine seq_cut (fun σ H7 => ∃ (pg : Addr) (x7 y7 : Int), σ = [some (.ref st), some (.int n), some (.int m), some (.ref pv), some (.ref pw), some (.int c), some (.ref po), some (.ref pg), none, none, none, none] ∧ Bt [st] H5 H7 ∧ H7 st = some (.lst [.int x7, .int y7]) ∧ pg ≠ st ∧ (H7 pg = some (.tup us) ∨ H7 pg = some (.lst us))) (fun R hR => ?_) ?_
  · walk_at "rs"
    refine ⟨st, x5, y5, 2, rfl, hst6, by decide, by decide +kernel, fun a x7 y7 a0 a1 => ?_⟩
    have b7 : Bt [st] H5 (L2.upd H6 st (.lst [.int x7, .int y7])) := (Bt.of s6).trans (Bt.upd (by simp))
    refine ⟨by simp [scal], ?_⟩
    have hst7 : (L2.upd H6 st (.lst [.int x7, .int y7])) st = some (.lst [.int x7, .int y7]) := upd_same
    have hpt7 : (L2.upd H6 st (.lst [.int x7, .int y7])) pt = some (.tup us) := by rw [upd_ne ptst]; exact hpt6
    have hpo7 : (L2.upd H6 st (.lst [.int x7, .int y7])) po = some (.lst us) := by rw [upd_ne post]; exact s6 _ _ hpo5
    generalize L2.upd H6 st (.lst [.int x7, .int y7]) = H7 at *
    split
    · refine ⟨us, .inl (SqL.of hpo7), fun l nl => hR _ _ ⟨l, x7, y7, rfl, b7.trans (Bt.of (same_upd nl)), same_upd nl _ _ hst7, (ne_of_none hst7 nl).symm, .inr upd_same⟩⟩
    · exact hR _ _ ⟨pt, x7, y7, rfl, b7, hst7, ptst, .inl hpt7⟩
  rintro σ H7 ⟨pg, x6, y6, rfl, b6, hst6, pgst, hpg6⟩
  have hpo6 := b6 po _ (by simpa using post) hpo5
  have hA6 := hA5.bt0 b6 hst5
  have hv6 := b6 _ _ pvst hv5
  have hu6 := b6 _ _ pwst hu5
  have okv : ∀ f ∈ A, ∀ i k, IntMulOk (v k) (f i) := fun f hf i k => (bv k).ok ((oA f hf).2 i) (by decide) (by decide)
  have okd : ∀ i, IntMulOk (v i) (u i) := fun i => (bv i).ok (bu i) (by decide) (by decide)
  refine seq_cut (fun σ H8 => ∃ (pd : Addr), σ = [some (.ref st), some (.int n), some (.int m), some (.ref pv), some (.ref pw), some (.int c), some (.ref po), some (.ref pg), some (.ref pd), none, none, none] ∧ Same H7 H8 ∧ H8 pd = some (.tup ((mk m (cmbF v A)).map V.int))) (fun R hR => ?_) ?_
  · walk_at "rs"
    exact ⟨pv, po, us, v, A, m, rfl, by rw [lA]; exact hv6, hpo6, hA6, by omega, by omega, okv, fun r H8 s8 hr8 => hR _ _ ⟨r, rfl, s8, hr8⟩⟩
  rintro σ H8 ⟨pd, rfl, s8, hpd8⟩
  refine seq_cut (fun σ H9 => σ = [some (.ref st), some (.int n), some (.int m), some (.ref pv), some (.ref pw), some (.int c), some (.ref po), some (.ref pg), some (.ref pd), none, none, none] ∧ Same H8 H9) (fun R hR => ?_) ?_
  · walk_at "rs"
    have hv8 := s8 _ _ hv6
    have hu8 := s8 _ _ hu6
    refine ⟨pv, pw, n, v, u, rfl, hv8, hu8, by omega, okd, fun H9 s9 => ?_⟩
    refine .inl ⟨_, rfl, ?_⟩
    refine ⟨pv, pw, n, v, u, rfl, s9 _ _ hv8, s9 _ _ hu8, by omega, okd, fun H10 s10 => ⟨_, rfl, true, rfl, ?_⟩⟩
    rw [if_neg (by decide)]
    have s8a : Same H7 H10 := s8.trans (s9.trans s10)
    have hpga : SqL K H10 pg us ∨ SqT K H10 pg us := by
      rcases hpg6 with h | h
      · exact .inr (SqT.of (s8a _ _ h))
      · exact .inl (SqL.of (s8a _ _ h))
    refine ⟨pv, pg, us, v, A, m, rfl, by rw [lA]; exact s8a _ _ hv6, hpga, hA6.same s8a, by omega, by omega, okv, fun r H11 s11 hr11 => ?_⟩
    refine .inr (.inl ⟨r, mk m (cmbF v A), rfl, SqT.of hr11, by rw [mk_len]; omega, fun p12 H12 s12 np12 hp12 => ?_⟩)
    have s8b : Same H8 H12 := s9.trans (s10.trans (s11.trans s12))
    refine ⟨p12, pd, m, cmbF v A, rfl, hp12, s8b _ _ hpd8, by omega, fun H13 s13 => ⟨true, rfl, ?_⟩⟩
    rw [if_neg (by decide)]
    have s8c : Same H8 H13 := s8b.trans s13
    have s7c : Same H7 H13 := s8.trans s8c
    refine ⟨us, ?_, fun l nl => ?_⟩
    · rcases hpg6 with h | h
      · exact .inr (SqT.of (s7c _ _ h))
      · exact .inl (SqL.of (s7c _ _ h))
    have sl : Same H13 (L2.upd H13 l (.lst us)) := same_upd nl
    have hAl := (hA6.same s7c).same sl
    refine ⟨lRs (rL m A), lRs (rL m A), .lst (SqL.of upd_same) (dp_rows hAl), .lst (SqL.of (sl _ _ (s7c _ _ hpo6))) (dp_rows hAl), shaped_lrows _, shaped_lrows _, ?_⟩
    rw [eqv_lrows, decide_eq_true rfl]
    refine ⟨_, rfl, ?_⟩
    rw [if_neg (by decide)]
    exact hR _ _ ⟨rfl, s8c.trans sl⟩
  rintro σ H9 ⟨rfl, s9⟩
  refine seq_cut (fun σ H10 => σ = [some (.ref st), some (.int n), some (.int m), some (.ref pv), some (.ref pw), some (.int c), some (.ref po), some (.ref pg), some (.ref pd), none, none, none] ∧ Same H9 H10) (fun R hR => ?_) ?_
  · walk_at "rs"
    have hv9 := s9 _ _ (s8 _ _ hv6)
    refine row_ints hv9 (by rw [mk_len]; omega) fun H10 s10 => ?_
    rw [mk_len, decide_eq_true rfl]
    refine ⟨true, true, rfl, rfl, _, rfl, ?_⟩
    rw [if_neg (by decide)]
    have hv10 := s10 _ _ hv9
    refine ⟨_, .inr (SqT.of hv10), fun l nl => ?_⟩
    refine row_not (T := "list") (.base (.lst upd_same)) (by decide) (by decide) ?_
    refine ⟨false, false, rfl, rfl, _, rfl, ?_⟩
    rw [if_neg (by decide)]
    refine ⟨by decide, fun p np => ?_⟩
    have hv11 := same_upd (o := HO.tup [V.int 0]) np _ _ (same_upd nl _ _ hv10)
    refine cat_any hv11 upd_same (by rw [List.length_map, mk_len]; simp; omega) fun r H12 s12 hr12 => ?_
    replace hr12 : H12 r = some (.tup ((mk n v ++ [0]).map V.int)) := by rw [List.map_append]; exact hr12
    refine row_ints hr12 (by rw [List.length_append, mk_len]; simp; omega) fun H13 s13 => ?_
    rw [List.length_append, mk_len, decide_eq_false (by simp)]
    refine ⟨false, false, rfl, rfl, _, rfl, ?_⟩
    rw [if_neg (by decide)]
    refine row_ints (k := n + 1) (s13 _ _ (s12 _ _ hv11)) (by rw [mk_len]; omega) fun H14 s14 => ?_
    rw [mk_len, decide_eq_false (by omega)]
    refine ⟨false, false, rfl, rfl, _, rfl, ?_⟩
    rw [if_neg (by decide)]
    exact hR _ _ ⟨rfl, s10.trans ((same_upd nl).trans ((same_upd np).trans (s12.trans (s13.trans s14))))⟩
  rintro σ H10 ⟨rfl, s10⟩
  refine seq_cut (fun σ H11 => σ = [some (.ref st), some (.int n), some (.int m), some (.ref pv), some (.ref pw), some (.int c), some (.ref po), some (.ref pg), some (.ref pd), none, none, none] ∧ Same H10 H11) (fun R hR => ?_) ?_
  · walk_at "rs"
    refine ⟨_, n, rfl, rfl, by decide, by omega, fun z => ?_⟩
    refine row_not (T := "str") (.base (.str z)) (by decide) (by decide) ?_
    refine ⟨false, false, rfl, rfl, _, rfl, ?_⟩
    rw [if_neg (by decide)]
    refine row_not (T := "NoneType") (.base .non) (by decide) (by decide) ?_
    refine ⟨false, false, rfl, rfl, _, rfl, ?_⟩
    rw [if_neg (by decide)]
    exact hR _ _ ⟨rfl, Same.refl _⟩
  rintro σ H11 ⟨rfl, s11⟩
  have hst11 := s11 _ _ (s10 _ _ (s9 _ _ (s8 _ _ hst6)))
  have hv11 := s11 _ _ (s10 _ _ (s9 _ _ (s8 _ _ hv6)))
  rw [CB.rd_seq]
  walk_at "rs"
  refine ⟨by decide, fun p np => ⟨by decide, fun p1 np1 => ⟨by decide, fun p2 np2 => ⟨by decide, fun p3 np3 => ?_⟩⟩⟩⟩
  have t1 : Same H11 (L2.upd H11 p (.tup [.int 1])) := same_upd np
  have t2 : Same (L2.upd H11 p (.tup [.int 1])) (L2.upd (L2.upd H11 p (.tup [.int 1])) p1 (.lst [.int 1])) := same_upd np1
  have t3 : Same (L2.upd (L2.upd H11 p (.tup [.int 1])) p1 (.lst [.int 1])) (L2.upd (L2.upd (L2.upd H11 p (.tup [.int 1])) p1 (.lst [.int 1])) p2 (.tup [])) := same_upd np2
  have t4 := same_upd (o := HO.lst [V.non, V.bl true, V.bl false, V.str (Str.ofString "1"), V.ref p, V.ref p1, V.ref p2, V.int 7, V.int (-7)]) np3
  have hp' := t4 _ _ (t3 _ _ (t2 _ _ (upd_same (H := H11) (a := p) (o := HO.tup [.int 1]))))
  have hp1' := t4 _ _ (t3 _ _ (upd_same (H := L2.upd H11 p (.tup [.int 1])) (a := p1) (o := HO.lst [.int 1])))
  have hp2' := t4 _ _ (upd_same (H := L2.upd (L2.upd H11 p (.tup [.int 1])) p1 (.lst [.int 1])) (a := p2) (o := HO.tup []))
  have hp3' := upd_same (H := L2.upd (L2.upd (L2.upd H11 p (.tup [.int 1])) p1 (.lst [.int 1])) p2 (.tup [])) (a := p3) (o := HO.lst [V.non, V.bl true, V.bl false, V.str (Str.ofString "1"), V.ref p, V.ref p1, V.ref p2, V.int 7, V.int (-7)])
  have s12 := t1.trans (t2.trans (t3.trans t4))
  generalize L2.upd (L2.upd (L2.upd (L2.upd H11 p (.tup [.int 1])) p1 (.lst [.int 1])) p2 (.tup [])) p3 (.lst [V.non, V.bl true, V.bl false, V.str (Str.ofString "1"), V.ref p, V.ref p1, V.ref p2, V.int 7, V.int (-7)]) = H12 at *
  have hst12 := s12 _ _ hst11
  have hv12 := s12 _ _ hv11
  have n1 : st ≠ p := ne_of_none hst11 np
  have q1 : p1 ≠ st := fun z => by rw [z, t1 _ _ hst11] at np1; cases np1
  have q3 : p3 ≠ st := fun z => by rw [z, t3 _ _ (t2 _ _ (t1 _ _ hst11))] at np3; cases np3
  refine seq_cut (fun σ H13 => ∃ (a x13 y13 : Int), σ = [some (.ref st), some (.int n), some (.int m), some (.ref pv), some (.ref pw), some (.int c), some (.ref po), some (.ref pg), some (.ref pd), some (.ref p3), some (.int a), none] ∧ Bt [st] H12 H13 ∧ H13 st = some (.lst [.int x13, .int y13]) ∧ 0 ≤ a ∧ a < 9) (fun R hR => ?_) ?_
  · walk_at "rs"
    exact ⟨st, _, _, 9, rfl, hst12, by decide, by decide +kernel, fun a x13 y13 a0 a1 => hR _ _ ⟨a, x13, y13, rfl, Bt.upd (by simp), upd_same, a0, a1⟩⟩
  rintro σ H13 ⟨a, x13, y13, rfl, b13, hst13, a0, a9⟩
  rw [CB.rd_seq]
  walk_at "rs"
  by_cases c0 : n = 0
  · rw [if_pos (by rw [c0]; rfl)]
    exact q _ _ _ hst13
  rw [if_neg (by omega)]
  rw [CB.rd_seq]
  walk_at "rs"
  refine ⟨st, x13, y13, n, rfl, hst13, by omega, log_s (by omega) (by omega), fun k x14 y14 k0 k1 => ?_⟩
  obtain ⟨k, rfl⟩ : ∃ k' : Nat, k = (k' : Int) := ⟨k.toNat, by omega⟩
  have b14 : Bt [st] H12 (L2.upd H13 st (.lst [.int x14, .int y14])) := b13.trans (Bt.upd (by simp))
  have hst14 : (L2.upd H13 st (.lst [.int x14, .int y14])) st = some (.lst [.int x14, .int y14]) := upd_same
  generalize L2.upd H13 st (.lst [.int x14, .int y14]) = H14 at *
  have pst : p ≠ st := n1.symm
  have p2st : p2 ≠ st := ne_of hp2' hst12 (by intro z; cases z)
  have hv14 := b14 _ _ pvst hv12
  have hp14 := b14 p _ (by simpa using pst) hp'
  have hp114 := b14 p1 _ (by simpa using q1) hp1'
  have hp214 := b14 p2 _ (by simpa using p2st) hp2'
  have hp314 := b14 p3 _ (by simpa using q3) hp3'
  have pick : ∃ val T, atI [V.non, V.bl true, V.bl false, V.str (Str.ofString "1"), V.ref p, V.ref p1, V.ref p2, V.int 7, V.int (-7)] a = some val ∧ (∀ H', Same H14 H' → TyX K H' val (.type T)) ∧ T ∈ kinds ∧ (T == "int") = decide (6 < a) := by
    have c : a = 0 ∨ a = 1 ∨ a = 2 ∨ a = 3 ∨ a = 4 ∨ a = 5 ∨ a = 6 ∨ a = 7 ∨ a = 8 := by omega
    rcases c with rfl | rfl | rfl | rfl | rfl | rfl | rfl | rfl | rfl
    · exact ⟨_, "NoneType", rfl, fun _ _ => .base .non, by decide, by decide⟩
    · exact ⟨_, "bool", rfl, fun _ _ => .base (.bl _), by decide, by decide⟩
    · exact ⟨_, "bool", rfl, fun _ _ => .base (.bl _), by decide, by decide⟩
    · exact ⟨_, "str", rfl, fun _ _ => .base (.str _), by decide, by decide⟩
    · exact ⟨_, "tuple", rfl, fun _ s => .base (.tup (s _ _ hp14)), by decide, by decide⟩
    · exact ⟨_, "list", rfl, fun _ s => .base (.lst (s _ _ hp114)), by decide, by decide⟩
    · exact ⟨_, "tuple", rfl, fun _ s => .base (.tup (s _ _ hp214)), by decide, by decide⟩
    · exact ⟨_, "int", rfl, fun _ _ => .base (.int _), by decide, by decide⟩
    · exact ⟨_, "int", rfl, fun _ _ => .base (.int _), by decide, by decide⟩
  obtain ⟨val, T, ev, tv, kT, dT⟩ := pick
  have lv : ((mk n v).map V.int).length = n := by rw [List.length_map, mk_len]
  refine ⟨k, rfl, sl_any hv14 fun r15 H15 s15 hr15 => ?_⟩
  rw [cutV_to (by omega), ← List.map_take] at hr15
  refine ⟨_, SqL.of (s15 _ _ hp314), val, ev, by decide, fun p16 np16 => ?_⟩
  refine cat_any (same_upd np16 _ _ hr15) upd_same (by simp; omega) fun r17 H17 s17 hr17 => ?_
  have sA : Same H14 H17 := s15.trans ((same_upd np16).trans s17)
  refine ⟨k, rfl, ?_⟩
  rw [show ((k : Int) + 1) = ((k + 1 : Nat) : Int) by omega]
  refine sl_any (sA _ _ hv14) fun r18 H18 s18 hr18 => ?_
  rw [cutV_from (by omega), ← List.map_drop] at hr18
  refine cat_any (s18 _ _ hr17) hr18 (by simp [mk_len]; omega) fun r19 H19 s19 hr19 => ?_
  have eL : (List.map V.int (List.take k (mk n v)) ++ [val] ++ List.map V.int (List.drop (k + 1) (mk n v))).length = n := by
    simp [mk_len]; omega
  have sB : Same H14 H19 := sA.trans (s18.trans s19)
  refine ⟨.ref r19, n, rfl, .inr ⟨r19, _, _, rfl, hr19, its_app (its_app (its_ints _) (its1 (T := T) (fun H' s => tv H' (sB.trans s)) kT)) (its_ints _), by rw [eL]; omega, fun H20 s20 => ?_⟩⟩
  rw [List.all_append, List.all_append, all_ints, all_ints, Bool.and_true, Bool.true_and, decide_eq_true eL, Bool.true_and]
  refine ⟨decide (6 < a), decide (6 < a), by simp [dT], ?_⟩
  rw [decide_eq_true rfl]
  exact q _ _ _ (s20 _ _ (sB _ _ hst14))
end

theorem cmbF_none {j : Nat} : ∀ {L : List Vc} {c : Nat → Int}, (∀ g ∈ L, g j = 0) → cmbF c L j = 0
  | [], _, _ => rfl
  | g :: L, c, h => by
    show c 0 * g j + cmbF (fun k => c (k + 1)) L j = 0
    rw [h g List.mem_cons_self, cmbF_none (L := L) fun f hf => h f (List.mem_cons_of_mem _ hf)]
    omega
theorem cmbF_sng {j : Nat} : ∀ {L : List Vc} {c : Nat → Int} {p : Nat} {f : Vc}, L[p]? = some f → (∀ (k : Nat) (g : Vc), L[k]? = some g → k ≠ p → g j = 0) → cmbF c L j = c p * f j
  | [], _, _, _, h, _ => by simp at h
  | g :: L, c, 0, f, h, h0 => by
    cases h
    show c 0 * g j + cmbF (fun k => c (k + 1)) L j = _
    rw [cmbF_none (L := L) fun e he => by
      obtain ⟨k, hk, rfl⟩ := List.getElem_of_mem he
      exact h0 (k + 1) _ (by rw [List.getElem?_cons_succ, List.getElem?_eq_getElem hk]) (by omega)]
    omega
  | g :: L, c, p + 1, f, h, h0 => by
    show c 0 * g j + cmbF (fun k => c (k + 1)) L j = _
    rw [h0 0 g rfl (by omega), cmbF_sng (L := L) (p := p) (f := f) h fun k e he ne => h0 (k + 1) e he (by omega)]
    omega
/-- a table with n rows, the first i of them on the diagonal -/
def DiagT (n i : Nat) (A : List Vc) : Prop := A.length = n ∧ ∀ (k : Nat) (f : Vc), A[k]? = some f → ∃ d : Int, (k < i → 1 ≤ d ∧ d ≤ 9) ∧ ∀ j, f j = if k < i ∧ j = k then d else 0
theorem DiagT.ker {n i : Nat} {A : List Vc} (h : DiagT n i A) (hi : i ≤ n) {x : Vc} : Ker n A x ↔ Sup n x ∧ ∀ k, k < i → x k = 0 := by
  have at' : ∀ k, k < i → ∃ d : Int, 1 ≤ d ∧ cmbF x A k = x k * d := fun k hk => by
    obtain ⟨f, hf⟩ : ∃ f, A[k]? = some f := ⟨_, List.getElem?_eq_getElem (by rw [h.1]; omega)⟩
    obtain ⟨d, hd, e⟩ := h.2 k f hf
    refine ⟨d, (hd hk).1, ?_⟩
    rw [cmbF_sng hf fun k2 g hg ne => by
      obtain ⟨d2, _, e2⟩ := h.2 k2 g hg
      rw [e2, if_neg (by omega)], e, if_pos ⟨hk, rfl⟩]
  constructor
  · rintro ⟨s, z⟩
    refine ⟨s, fun k hk => ?_⟩
    obtain ⟨d, hd, e⟩ := at' k hk
    rw [z] at e
    rcases Int.mul_eq_zero.mp e.symm with h | h <;> omega
  · rintro ⟨s, z⟩
    refine ⟨s, fun j => ?_⟩
    rcases Nat.lt_or_ge j i with c | c
    · obtain ⟨d, _, e⟩ := at' j c
      rw [e, z j c]; omega
    · refine cmbF_none fun g hg => ?_
      obtain ⟨k, hk, rfl⟩ := List.getElem_of_mem hg
      obtain ⟨d, _, e⟩ := h.2 k _ (List.getElem?_eq_getElem hk)
      rw [e, if_neg (by omega)]
theorem DiagT.bd {n i : Nat} {A : List Vc} (h : DiagT n i A) : ∀ f ∈ A, Bd 4 f := fun f hf j => by
  obtain ⟨k, hk, rfl⟩ := List.getElem_of_mem hf
  obtain ⟨d, hd, e⟩ := h.2 k _ (List.getElem?_eq_getElem hk)
  rw [e]
  unfold Sz
  split
  · rename_i c
    have := hd c.1
    omega
  · decide
theorem DiagT.sup {n i m : Nat} {A : List Vc} (h : DiagT n i A) (him : i ≤ m) : ∀ f ∈ A, Sup m f := fun f hf j hj => by
  obtain ⟨k, hk, rfl⟩ := List.getElem_of_mem hf
  obtain ⟨d, hd, e⟩ := h.2 k _ (List.getElem?_eq_getElem hk)
  rw [e, if_neg (by omega)]
theorem DiagT.zero (n : Nat) : DiagT n 0 (List.replicate n fun _ => 0) := ⟨List.length_replicate, fun k f h => by
  rw [List.getElem?_replicate] at h
  split at h
  · cases h
    exact ⟨0, fun z => absurd z (Nat.not_lt_zero _), fun j => (if_neg (fun z => absurd z.1 (Nat.not_lt_zero _))).symm⟩
  · cases h⟩
theorem DiagT.next {n i : Nat} {A : List Vc} {f : Vc} {d : Int} (h : DiagT n i A) (hf : A[i]? = some f) (d1 : 1 ≤ d) (d9 : d ≤ 9) : DiagT n (i + 1) (A.set i fun j => if j = i then d else f j) := by
  have li : i < A.length := (List.getElem?_eq_some_iff.mp hf).1
  refine ⟨by rw [List.length_set]; exact h.1, fun k g hg => ?_⟩
  by_cases c : k = i
  · subst c
    rw [List.getElem?_set_self li] at hg
    cases hg
    obtain ⟨d', _, e⟩ := h.2 k f hf
    refine ⟨d, fun _ => ⟨d1, d9⟩, fun j => ?_⟩
    show (if j = k then d else f j) = _
    by_cases z : j = k
    · rw [if_pos z, if_pos ⟨by omega, z⟩]
    · rw [if_neg z, if_neg (fun y => z y.2), e, if_neg (fun y => z y.2)]
  · rw [List.getElem?_set_ne (fun z => c z.symm)] at hg
    obtain ⟨d', hd, e⟩ := h.2 k g hg
    refine ⟨d', fun z => hd (by omega), fun j => ?_⟩
    rw [e]
    by_cases z : k < i ∧ j = k
    · rw [if_pos z, if_pos ⟨by omega, z.2⟩]
    · rw [if_neg z, if_neg (fun y => z ⟨by omega, y.2⟩)]
/-- the units from i on -/
def unitsFrom (i c : Nat) : List Vc := (List.range c).map fun t => unitV (i + t)
theorem unitsFrom_next {i c : Nat} : unitsFrom i (c + 1) = unitsFrom i c ++ [unitV (i + c)] := by
  unfold unitsFrom
  rw [List.range_succ, List.map_append]
  rfl
theorem unitsFrom_spn {i n : Nat} (h : i ≤ n) {x : Vc} : Spn (Ls (unitsFrom i (n - i))) x ↔ Sup n x ∧ ∀ k, k < i → x k = 0 := by
  have one : ∀ f ∈ unitsFrom i (n - i), Sup n f ∧ ∀ k, k < i → f k = 0 := fun f hf => by
    obtain ⟨t, ht, rfl⟩ := List.mem_map.mp hf
    have := List.mem_range.mp ht
    exact ⟨fun j hj => if_neg (by omega), fun k hk => if_neg (by omega)⟩
  constructor
  · intro hx
    refine hx.ind (p := fun x => Sup n x ∧ ∀ k, k < i → x k = 0) ⟨fun _ _ => rfl, fun _ _ => rfl⟩ ?_
    rintro f g c ⟨a, b⟩ hg
    obtain ⟨a', b'⟩ := one g hg
    refine ⟨fun j hj => ?_, fun k hk => ?_⟩
    · show f j + c * g j = 0
      rw [a j hj, a' j hj]; omega
    · show f k + c * g k = 0
      rw [b k hk, b' k hk]; omega
  · rintro ⟨s, z⟩
    refine spn_cmbF.mpr ⟨fun t => x (i + t), fun j => ?_⟩
    rcases Nat.lt_or_ge j i with c | c
    · rw [z j c, cmbF_none fun g hg => (one g hg).2 j c]
    rcases Nat.lt_or_ge j n with c2 | c2
    · have hp : (unitsFrom i (n - i))[j - i]? = some (unitV (i + (j - i))) := by
        unfold unitsFrom
        rw [List.getElem?_map, List.getElem?_range (by omega)]
        rfl
      rw [cmbF_sng hp fun k g hg ne => by
        unfold unitsFrom at hg
        rw [List.getElem?_map] at hg
        obtain ⟨t, ht, rfl⟩ := Option.map_eq_some_iff.mp hg
        have : k = t := by
          have hk := (List.getElem?_eq_some_iff.mp ht)
          obtain ⟨h1, h2⟩ := hk
          rw [List.getElem_range] at h2
          exact h2
        exact if_neg (by omega)]
      show x j = x (i + (j - i)) * (if i + (j - i) = j then 1 else 0)
      rw [show i + (j - i) = j by omega, if_pos rfl]; omega
    · rw [s j c2, cmbF_none fun g hg => (one g hg).1 j c2]
/-- what holds of the table and of the plain rows, turn by turn -/
structure KInv (n m b : Nat) (A P : List Vc) : Prop where
  len : A.length = n
  supA : ∀ f ∈ A, Sup m f
  bdA : ∀ f ∈ A, Bd b f
  supP : ∀ f ∈ P, Sup n f
  bdP : ∀ f ∈ P, Bd b f
  iff : ∀ x, Ker n A x ↔ Spn (Ls P) x
theorem KInv.first {n m i : Nat} {A : List Vc} (h : DiagT n i A) (hn : i ≤ n) (hm : i ≤ m) : KInv n m 4 A (unitsFrom i (n - i)) := by
  refine ⟨h.1, h.sup hm, h.bd, fun f hf => ?_, fun f hf => ?_, fun x => by rw [h.ker hn, unitsFrom_spn hn]⟩
  · obtain ⟨t, ht, rfl⟩ := List.mem_map.mp hf
    have := List.mem_range.mp ht
    exact fun j hj => if_neg (by omega)
  · obtain ⟨t, ht, rfl⟩ := List.mem_map.mp hf
    exact unitV_bd (m := 3)
theorem KInv.next {n m b i j : Nat} {A P : List Vc} {f g : Vc} {c : Int} (h : KInv n m b A P) (hi : A[i]? = some f) (hj : A[j]? = some g) (ne : i ≠ j) (c1 : -3 ≤ c) (c2 : c ≤ 3) : KInv n m (b + 2) (A.set i fun k => f k + c * g k) (P.map (phi i j c)) := by
  have fA := List.mem_of_getElem? hi
  have gA := List.mem_of_getElem? hj
  have jn : j < n := by rw [← h.len]; exact (List.getElem?_eq_some_iff.mp hj).1
  refine ⟨by rw [List.length_set]; exact h.len, fun e he => ?_, fun e he => ?_, fun e he => ?_, fun e he => ?_, fun x => ?_⟩
  · rcases List.mem_or_eq_of_mem_set he with he | rfl
    · exact h.supA e he
    · intro k hk
      show f k + c * g k = 0
      rw [h.supA f fA k hk, h.supA g gA k hk]; omega
  · rcases List.mem_or_eq_of_mem_set he with he | rfl
    · exact (h.bdA e he).le (by omega)
    · exact bd_mix (h.bdA f fA) (h.bdA g gA) c1 c2
  · obtain ⟨e, he', rfl⟩ := List.mem_map.mp he
    intro k hk
    rw [phi_ne (by omega)]
    exact h.supP e he' k hk
  · obtain ⟨e, he', rfl⟩ := List.mem_map.mp he
    intro k
    by_cases z : k = j
    · subst z
      rw [phi_at]
      have := bd_mix (h.bdP e he') (fun _ => h.bdP e he' i) (c := -c) (by omega) (by omega) k
      rw [Int.neg_mul] at this
      exact this
    · rw [phi_ne z]
      exact (h.bdP e he').le (by omega) k
  · rw [ker_set h.len hi hj ne, h.iff, phi_spn ne]
section
variable {P : Program} {w : World} {K : PySem.W.Frag} {mg : Str → Option Value} {base : Heap} {CM CR : Addr}
variable {X : List Addr} {H H' : Hp} {n : Nat} {v : V} {f : Vc} {vs us : List V} {fs gs : List Vc}
theorem LRs.away (h : LRs X H n vs fs) {a : Addr} {o : HO} (ha : ∀ v ∈ vs, v ≠ .ref a) : LRs X (L2.upd H a o) n vs fs := by
  induction h with
  | nil => exact .nil
  | @cons v f vs fs x _ ih =>
    obtain ⟨p, rfl, nX, hp⟩ := x
    refine .cons ⟨p, rfl, nX, ?_⟩ (ih fun v hv => ha v (List.mem_cons_of_mem _ hv))
    rw [upd_ne (fun z => ha _ List.mem_cons_self (by rw [z]))]
    exact hp
theorem LRs.setAt (h : LRs X H n vs fs) (nd : vs.Nodup) {a : Addr} {g : Vc} : ∀ {i : Nat}, vs[i]? = some (.ref a) → LRs X (L2.upd H a (.lst ((mk n g).map V.int))) n vs (fs.set i g) := by
  induction h with
  | nil => intro i e; simp at e
  | @cons v f vs fs x y ih =>
    intro i e
    obtain ⟨nv, nd'⟩ := List.nodup_cons.mp nd
    obtain ⟨p, rfl, nX, hp⟩ := x
    match i, e with
    | 0, e =>
      cases e
      refine .cons ⟨_, rfl, nX, upd_same⟩ (y.away fun v hv z => nv (by rw [← z]; exact hv))
    | i + 1, e =>
      have e : vs[i]? = some (.ref a) := e
      refine .cons ⟨p, rfl, nX, ?_⟩ (ih nd' e)
      rw [upd_ne (fun z => nv (by rw [z]; exact List.mem_of_getElem? e))]
      exact hp
theorem LRs.fresh {Y : List Addr} (h : LRs X H n vs fs) (hY : ∀ a ∈ Y, a ∈ X ∨ H a = none) : LRs Y H n vs fs := by
  induction h with
  | nil => exact .nil
  | cons a _ ih =>
    obtain ⟨p, e, nX, hp⟩ := a
    refine .cons ⟨p, e, fun z => ?_, hp⟩ ih
    rcases hY p z with h | h
    · exact nX h
    · rw [hp] at h; cases h
theorem LRs.ref (h : LRs X H n vs fs) : ∀ v ∈ vs, ∃ p, v = .ref p ∧ p ∉ X ∧ ∃ l, H p = some (.lst l) := by
  induction h with
  | nil => exact fun v hv => absurd hv List.not_mem_nil
  | cons a _ ih =>
    intro v hv
    rcases List.mem_cons.mp hv with rfl | hv
    · obtain ⟨p, e, nX, hp⟩ := a
      exact ⟨p, e, nX, _, hp⟩
    · exact ih v hv
theorem nodup_add (h : LRs X H n vs fs) (nd : vs.Nodup) {a : Addr} (ha : H a = none) : (vs ++ [V.ref a]).Nodup := by
  rw [List.nodup_append]
  refine ⟨nd, by simp, fun x hx y hy e => ?_⟩
  rw [List.mem_singleton.mp hy] at e
  obtain ⟨p, ep, _, l, hl⟩ := h.ref x hx
  rw [ep] at e
  cases e
  rw [ha] at hl; cases hl
end

local macro_rules | `(tactic| walk_at "rd") => `(tactic| simp (maxSteps := 2000000) only [CB.rd_var, CB.rd_C, CB.rd_op, CB.rd_un, CB.rd_I, CB.rd_I0, CB.rd_U, CB.rd_Eq, CB.rd_Ne, CB.rd_test, CB.rd_B, CB.rd_and, CB.rd_or, CB.rd_not, CB.rd_andV, CB.rd_orV, CB.rd_notV, CB.rd_if, CB.rd_chain, CB.rd_chain3,
  CB.rd_next, CB.rd_seq, CB.rd_drop, CB.rd_ret, CB.rd_retN, CB.rd_break, CB.rd_cont, CB.rd_ifS, CB.rd_asg, CB.rd_name, CB.rd_gsub, CB.rd_gtup, CB.rd_gcons, CB.rd_gnil, CB.rd_par, CB.rd_aug, CB.rd_ipI, CB.rd_nil, CB.rd_cons, CB.rd_tup, CB.rd_lst, CB.rd_CB, CB.rd_call, CB.rd_callS, CB.rd_ixL, CB.rd_ixT, CB.rd_setL, CB.rd_putS, CB.rd_forZ, CB.rd_lcZ, CB.rd_forE, CB.rd_forEL, CB.rd_lcE, CB.rd_isqrt, CB.rd_sum, CB.rd_append, CB.rd_forL, CB.rd_forT, CB.rd_forR1, CB.rd_forR2, CB.rd_forR3, CB.rd_lcL, CB.rd_lcT, CB.rd_lcR1, CB.rd_lcR2, CB.rd_yes, CB.rd_sl, CB.rd_noPart, CB.rd_part, CB.rd_slL, CB.rd_wipe0, CB.rd_rep, CB.rd_tupOf, CB.rd_lenS, CB.rd_gcd, CB.rd_wipe1, CB.rd_sorted3, CB.rd_any, CB.rd_all, CB.rd_ext, CB.rd_glst, CB.rd_sortedM, CB.rd_minD, CB.rd_indexD, CB.rd_pop, CB.rd_dnew, CB.rd_dget, CB.rd_dget2, CB.rd_dput, CB.rd_dm, CB.rd_anyI, CB.rd_ixDC, CB.rd_inDC, CB.rd_cat, CB.rd_lcZR, CB.rd_revR1, CB.rd_max2, CB.rd_forRv, CB.rd_ins, CB.rd_revT, CB.rd_listOf, CB.rd_inI, CB.rd_idxI,
  L2.start, List.map_cons, List.map_nil, List.length_cons, List.length_nil, Nat.reduceAdd, Nat.reduceSub, List.replicate_succ, List.replicate_zero,
  V.int.injEq, V.ref.injEq, V.bl.injEq, V.str.injEq, Option.some.injEq, List.cons.injEq, exists_and_left, exists_eq_left', exists_eq_left, reduceCtorEq, false_and, and_false, or_false, false_or, exists_false, exists_const, and_assoc, true_and, and_true,
  CB.scal_int, CB.scal_str, CB.dec_ii, CB.ite_dec, CB.ite_ndec, List.getElem?_cons_zero, List.getElem?_cons_succ, List.set_cons_zero, List.set_cons_succ, List.append_nil, List.cons_append, List.nil_append, if_true, if_false, Bool.false_eq_true, Bool.not_true, Bool.not_false, CB.K_nox, CB.K_cxOf, eq_self])
local macro_rules | `(tactic| walk_at "rs") => `(tactic| simp (maxSteps := 2000000) only [CB.rd_var, CB.rd_C, CB.rd_op, CB.rd_un, CB.rd_I, CB.rd_I0, CB.rd_U, CB.rd_Eq, CB.rd_Ne, CB.rd_test, CB.rd_B, CB.rd_and, CB.rd_or, CB.rd_not, CB.rd_andV, CB.rd_orV, CB.rd_notV, CB.rd_if, CB.rd_chain, CB.rd_chain3,
  CB.rd_next, CB.rd_drop, CB.rd_ret, CB.rd_retN, CB.rd_break, CB.rd_cont, CB.rd_ifS, CB.rd_asg, CB.rd_name, CB.rd_gsub, CB.rd_gtup, CB.rd_gcons, CB.rd_gnil, CB.rd_par, CB.rd_aug, CB.rd_ipI, CB.rd_nil, CB.rd_cons, CB.rd_tup, CB.rd_lst, CB.rd_CB, CB.rd_call, CB.rd_callS, CB.rd_ixL, CB.rd_ixT, CB.rd_setL, CB.rd_putS, CB.rd_forZ, CB.rd_lcZ, CB.rd_forE, CB.rd_forEL, CB.rd_lcE, CB.rd_isqrt, CB.rd_sum, CB.rd_append, CB.rd_forL, CB.rd_forT, CB.rd_forR1, CB.rd_forR2, CB.rd_forR3, CB.rd_lcL, CB.rd_lcT, CB.rd_lcR1, CB.rd_lcR2, CB.rd_yes, CB.rd_sl, CB.rd_noPart, CB.rd_part, CB.rd_slL, CB.rd_wipe0, CB.rd_rep, CB.rd_tupOf, CB.rd_lenS, CB.rd_gcd, CB.rd_wipe1, CB.rd_sorted3, CB.rd_any, CB.rd_all, CB.rd_ext, CB.rd_glst, CB.rd_sortedM, CB.rd_minD, CB.rd_indexD, CB.rd_pop, CB.rd_dnew, CB.rd_dget, CB.rd_dget2, CB.rd_dput, CB.rd_dm, CB.rd_anyI, CB.rd_ixDC, CB.rd_inDC, CB.rd_cat, CB.rd_lcZR, CB.rd_revR1, CB.rd_max2, CB.rd_forRv, CB.rd_ins, CB.rd_revT, CB.rd_listOf, CB.rd_inI, CB.rd_idxI,
  L2.start, List.map_cons, List.map_nil, List.length_cons, List.length_nil, Nat.reduceAdd, Nat.reduceSub, List.replicate_succ, List.replicate_zero,
  V.int.injEq, V.ref.injEq, V.bl.injEq, V.str.injEq, Option.some.injEq, List.cons.injEq, exists_and_left, exists_eq_left', exists_eq_left, reduceCtorEq, false_and, and_false, or_false, false_or, exists_false, exists_const, and_assoc, true_and, and_true,
  CB.scal_int, CB.scal_str, CB.dec_ii, CB.ite_dec, CB.ite_ndec, List.getElem?_cons_zero, List.getElem?_cons_succ, List.set_cons_zero, List.set_cons_succ, List.append_nil, List.cons_append, List.nil_append, if_true, if_false, Bool.false_eq_true, Bool.not_true, Bool.not_false, CB.K_nox, CB.K_cxOf, eq_self])

local macro_rules | `(tactic| walk_at "nx") => `(tactic| (show tSeq _ _ _ _ _; rw [CB.rd_seq]; walk_at "rs"))


section
variable {P : Program} {w : World} {K : PySem.W.Frag} {mg : Str → Option Value} {base : Heap} {CM CR : Addr}
/-- the table and the plain rows in their lists -/
structure KF (st pt pp : Addr) (ap : List Addr) (n m : Nat) (H : Hp) (vs : List V) (A P : List Vc) : Prop where
  hpt : H pt = some (.lst vs)
  hpp : H pp = some (.lst (ap.map V.ref))
  z : LRs (st :: pt :: pp :: ap) H m vs A
  q : LRs [st, pt, pp] H n (ap.map V.ref) P
theorem KF.st {st pt pp : Addr} {ap : List Addr} {n m : Nat} {H : Hp} {vs : List V} {A P : List Vc} {o : HO} (h : KF st pt pp ap n m H vs A P) (h1 : pt ≠ st) (h2 : pp ≠ st) : KF st pt pp ap n m (L2.upd H st o) vs A P :=
  ⟨by rw [upd_ne h1]; exact h.hpt, by rw [upd_ne h2]; exact h.hpp, h.z.bt (Bt.upd (by simp)), h.q.bt (Bt.upd (by simp))⟩
theorem turn_row {P : List Vc} {r : Nat} {f : Vc} {φ : Vc → Vc} (h : ((P.take r).map φ ++ P.drop r)[r]? = some f) : P[r]? = some f ∧ ((P.take r).map φ ++ P.drop r).set r (φ f) = (P.take (r + 1)).map φ ++ P.drop (r + 1) := by
  have hr : r < P.length := by
    have := (List.getElem?_eq_some_iff.mp h).1
    rw [List.length_append, List.length_map, List.length_take, List.length_drop] at this
    omega
  have l : ((P.take r).map φ).length = r := by rw [List.length_map, List.length_take]; omega
  have e : P[r]? = some f := by
    rw [List.getElem?_append_right (by omega), l, Nat.sub_self, List.getElem?_drop] at h
    simpa using h
  refine ⟨e, ?_⟩
  rw [List.set_append_right _ _ (by omega), l, Nat.sub_self, drop_at e, List.set_cons_zero, List.take_add_one, e]
  simp
theorem pvt_all {n : Nat} {f : Vc} (s : Sup n f) : ¬ pvt n f < n ↔ ∀ i, f i = 0 := by
  constructor
  · intro h i
    rcases Nat.lt_or_ge i n with c | c
    · exact pvt_zero (w := n) i (by omega)
    · exact s i c
  · intro h z
    exact pvt_ne z (h _)
theorem mk_setV {n i : Nat} {f : Vc} {x : Int} : ((mk n f).map V.int).set i (.int x) = (mk n fun j => if j = i then x else f j).map V.int := by
  refine List.ext_getElem? fun k => ?_
  rcases Nat.lt_or_ge k n with h | h
  · rw [List.getElem?_map, mk_get h, List.getElem?_set]
    by_cases c : i = k
    · subst c
      rw [if_pos rfl, List.length_map, mk_len, if_pos h, if_pos rfl]; rfl
    · rw [if_neg c, List.getElem?_map, mk_get h, if_neg (fun z => c z.symm)]
  · rw [List.getElem?_eq_none (by rw [List.length_set, List.length_map, mk_len]; exact h), List.getElem?_eq_none (by rw [List.length_map, mk_len]; exact h)]
abbrev s__law_kernel_holds : Stmt := top 31
theorem sc__law_kernel_holds : FnScope ["state", "n", "width", "free", "table", "i", "plain", "turn", "rows", "found", "x", "j", "c", "row", "k"] ["state"] (defScope s__law_kernel_holds) := ⟨rfl, rfl, rfl, by decide +kernel, rfl, by decide +kernel, by decide +kernel⟩

theorem cal_kh (D : Dn K mg "_law_kernel_holds" s__law_kernel_holds ["state"]) (B : Bl mg) (c__law_take : Cal P w K mg base "_law_take" 1 ["state", "m"] spTake) (c_kernel : Cal P w K mg base "kernel" 7 ["rows", "width"] (spKer K)) (c__law_plain : Cal P w K mg base "_law_plain" 4 ["value"] (spPl K)) (c_span : Cal P w K mg base "span" 5 ["rows", "width"] (spSpan K mm)) (c__law_row : Cal P w K mg base "_law_row" 2 ["state", "n"] spLR) (c__law_times : Cal P w K mg base "_law_times" 1 ["v", "rows", "width"] spLT) (c_holds : Cal P w K mg base "holds" 3 ["space", "x"] (spHo K)) (c__law_says : Cal P w K mg base "_law_says" 1 ["value", "due"] spSays) :
    Cal P w K mg base "_law_kernel_holds" 8 ["state"] spPH := by
  refine D.cal sc__law_kernel_holds (fun vs H Q E h => by obtain ⟨st, x, y, rfl, _⟩ := h; rfl) (fun fa cdv A outer s H vs Q E hr h => ?_)
  obtain ⟨st, x, y, rfl, hst, q⟩ := h
  refine ⟨_, (pss_cons (ps_set (i := 1) sc__law_kernel_holds.nd rfl (Or.inr rfl) (pe_cal c__law_take (hr.mono (by decide)) rfl (pa_cons (pv 0) (pa_cons pe_int pa_nil))))
  (pss_cons (ps_set (i := 2) sc__law_kernel_holds.nd rfl (Or.inr rfl) (pe_cal c__law_take (hr.mono (by decide)) rfl (pa_cons (pv 0) (pa_cons pe_int pa_nil))))
  (pss_cons (ps_set (i := 3) sc__law_kernel_holds.nd rfl (Or.inl rfl) (pe_cal c__law_take (hr.mono (by decide)) rfl (pa_cons (pv 0) (pa_cons (pe_op op_add (pv 1) pe_int) pa_nil))))
  (pss_cons (ps_set (i := 4) sc__law_kernel_holds.nd rfl (Or.inr rfl) (pe_lc (own := [("i", 5)]) rfl sc__law_kernel_holds.nd (pi_range1 rfl B.range (pa_cons (pv 1) pa_nil)) (blkOk_by (N := ["state", "n", "width", "free", "table", "i", "plain", "turn", "rows", "found", "x", "j", "c", "row", "k"]) (sc := defScope s__law_kernel_holds) (own := [("i", 5)]) (by decide +kernel)) (fun _ _ _ _ _ => (pg_name (i := 5) sc__law_kernel_holds.nd rfl (Or.inl rfl))) (fun _ _ _ _ _ => pts_nil) (fun _ _ _ _ _ => (pe_lc (own := [("j", 11)]) rfl sc__law_kernel_holds.nd (pi_range1 rfl B.range (pa_cons (pv 2) pa_nil)) (blkOk_in (N := ["state", "n", "width", "free", "table", "i", "plain", "turn", "rows", "found", "x", "j", "c", "row", "k"]) (own := [("j", 11)]) rfl (by decide +kernel)) (fun _ _ _ _ _ => (pg_name (i := 11) sc__law_kernel_holds.nd rfl (Or.inl rfl))) (fun _ _ _ _ _ => pts_nil) (fun _ _ _ _ _ => pe_int)))))
  (pss_cons (ps_for PassesOwn.never rfl (pi_range1 rfl B.range (pa_cons (pe_callB (call_min2 rfl) rfl B.min (by decide +kernel) (pa_cons (pe_op op_sub (pv 1) (pv 3)) (pa_cons (pv 2) pa_nil))) pa_nil)) (pg_name (i := 5) sc__law_kernel_holds.nd rfl (Or.inr rfl)) (pss_one (ps_asg (pe_op op_add pe_int (pe_cal c__law_take (hr.mono (by decide)) rfl (pa_cons (pv 0) (pa_cons pe_int pa_nil)))) (pg_sub (pe_ix ix_list (pv 4) (pv 5) (fun _ _ => rfl)) (pv 5) set_list))))
  (pss_cons (ps_setLc (i := 6) (own := [("i", 5)]) rfl sc__law_kernel_holds.nd rfl rfl (sw_true rfl rfl rfl (by decide +kernel)) (pi_range2 rfl B.range (pa_cons (pe_callB (call_min2 rfl) rfl B.min (by decide +kernel) (pa_cons (pe_op op_sub (pv 1) (pv 3)) (pa_cons (pv 2) pa_nil))) (pa_cons (pv 1) pa_nil))) (blkOk_by (N := ["state", "n", "width", "free", "table", "i", "plain", "turn", "rows", "found", "x", "j", "c", "row", "k"]) (sc := defScope s__law_kernel_holds) (own := [("i", 5)]) (by decide +kernel)) (fun _ _ _ _ _ => (pg_name (i := 5) sc__law_kernel_holds.nd rfl (Or.inr rfl))) (fun _ _ _ _ _ => pts_nil) (fun _ _ _ _ _ => (pe_lc (own := [("j", 11)]) rfl sc__law_kernel_holds.nd (pi_range1 rfl B.range (pa_cons (pv 1) pa_nil)) (blkOk_in (N := ["state", "n", "width", "free", "table", "i", "plain", "turn", "rows", "found", "x", "j", "c", "row", "k"]) (own := [("j", 11)]) rfl (by decide +kernel)) (fun _ _ _ _ _ => (pg_name (i := 11) sc__law_kernel_holds.nd rfl (Or.inl rfl))) (fun _ _ _ _ _ => pts_nil) (fun _ _ _ _ _ => (pe_callTy call_int1 rfl B.int boot_int (pa_cons (pe_cmpR op_eq (pv 5) (pv 11) (nomark _)) pa_nil))))))
  (pss_cons (ps_for PassesOwn.never rfl (pi_range1 rfl B.range (pa_cons (pe_op op_mulI pe_int (pe_callTy call_int1 rfl B.int boot_int (pa_cons (pe_cmpR op_gt (pv 1) pe_int (nomark _)) pa_nil))) pa_nil)) (pg_name (i := 7) sc__law_kernel_holds.nd rfl (Or.inl rfl)) (pss_cons (ps_set (i := 5) sc__law_kernel_holds.nd rfl (Or.inr rfl) (pe_cal c__law_take (hr.mono (by decide)) rfl (pa_cons (pv 0) (pa_cons (pv 1) pa_nil))))
  (pss_cons (ps_set (i := 11) sc__law_kernel_holds.nd rfl (Or.inr rfl) (pe_op op_mod (pe_callTy call_int1 rfl B.int boot_int (pa_cons (pe_op op_add (pe_op op_add (pv 5) pe_int) (pe_cal c__law_take (hr.mono (by decide)) rfl (pa_cons (pv 0) (pa_cons (pe_op op_sub (pv 1) pe_int) pa_nil)))) pa_nil)) (pv 1)))
  (pss_cons (ps_set (i := 12) sc__law_kernel_holds.nd rfl (Or.inr rfl) (pe_op op_sub (pe_cal c__law_take (hr.mono (by decide)) rfl (pa_cons (pv 0) (pa_cons pe_int pa_nil))) pe_int))
  (pss_cons (ps_asg (pe_lc (own := [("k", 14)]) rfl sc__law_kernel_holds.nd (pi_range1 rfl B.range (pa_cons (pv 2) pa_nil)) (blkOk_by (N := ["state", "n", "width", "free", "table", "i", "plain", "turn", "rows", "found", "x", "j", "c", "row", "k"]) (sc := defScope s__law_kernel_holds) (own := [("k", 14)]) (by decide +kernel)) (fun _ _ _ _ _ => (pg_name (i := 14) sc__law_kernel_holds.nd rfl (Or.inl rfl))) (fun _ _ _ _ _ => pts_nil) (fun _ _ _ _ _ => (pe_op op_add (pe_ix (ix_listK (K := K) rfl) (pe_ix (ix_listK (K := K) rfl) (pv 4) (pv 5) (fun _ _ => rfl)) (pv 14) (fun _ _ => rfl)) (pe_op op_mulI (pv 12) (pe_ix (ix_listK (K := K) rfl) (pe_ix (ix_listK (K := K) rfl) (pv 4) (pv 11) (fun _ _ => rfl)) (pv 14) (fun _ _ => rfl)))))) (pg_sub (pv 4) (pv 5) set_list))
  (pss_one (ps_for PassesOwn.never rfl (pi_list (pv 6)) (pg_name (i := 13) sc__law_kernel_holds.nd rfl (Or.inl rfl)) (pss_one (ps_asg (pe_op op_sub (pe_ix ix_list (pv 13) (pv 11) (fun _ _ => rfl)) (pe_op op_mulI (pv 12) (pe_ix ix_list (pv 13) (pv 5) (fun _ _ => rfl)))) (pg_sub (pv 13) (pv 11) set_list))))))))))
  (pss_cons (ps_setLc (i := 8) (own := [("row", 13)]) rfl sc__law_kernel_holds.nd rfl rfl (sw_true rfl rfl rfl (by decide +kernel)) (pi_list (pv 4)) (blkOk_by (N := ["state", "n", "width", "free", "table", "i", "plain", "turn", "rows", "found", "x", "j", "c", "row", "k"]) (sc := defScope s__law_kernel_holds) (own := [("row", 13)]) (by decide +kernel)) (fun _ _ _ _ _ => (pg_name (i := 13) sc__law_kernel_holds.nd rfl (Or.inl rfl))) (fun _ _ _ _ _ => pts_nil) (fun _ _ _ _ _ => (pe_callTy (cr_tupOfK (K := K) rfl) rfl B.tuple boot_tuple (pa_cons (pv 13) pa_nil))))
  (pss_cons (ps_set (i := 9) sc__law_kernel_holds.nd rfl (Or.inl rfl) (pe_cal c__law_plain (hr.mono (by decide)) rfl (pa_cons (pe_cal c_kernel (hr.mono (by decide)) rfl (pa_cons (pe_callTy cr_tupOf rfl B.tuple boot_tuple (pa_cons (pv 8) pa_nil)) (pa_cons (pv 2) pa_nil))) pa_nil)))
  (pss_cons (ps_if (PW.pt (pw_or (pt_cmpR (op_neD hr.units) (pv 9) (pe_cal c__law_plain (hr.mono (by decide)) rfl (pa_cons (pe_cal c_span (hr.mono (by decide)) rfl (pa_cons (pe_lc (own := [("row", 13)]) rfl sc__law_kernel_holds.nd (pi_list (pv 6)) (blkOk_by (N := ["state", "n", "width", "free", "table", "i", "plain", "turn", "rows", "found", "x", "j", "c", "row", "k"]) (sc := defScope s__law_kernel_holds) (own := [("row", 13)]) (by decide +kernel)) (fun _ _ _ _ _ => (pg_name (i := 13) sc__law_kernel_holds.nd rfl (Or.inl rfl))) (fun _ _ _ _ _ => pts_nil) (fun _ _ _ _ _ => (pe_callTy (cr_tupOfK (K := K) rfl) rfl B.tuple boot_tuple (pa_cons (pv 13) pa_nil)))) (pa_cons (pv 1) pa_nil))) pa_nil)) (nomark _)) (pw_or1 (pt_not (pt_val (pe_callB call_isi rfl B.isinstance (by decide +kernel) (pa_cons (pv 9) (pa_cons (pe_bltn (v := .ty "tuple") rfl B.tuple boot_tuple rfl) pa_nil)))))))) (pss_one (ps_ret pe_bl)) pss_nil)
  (pss_cons (ps_set (i := 10) sc__law_kernel_holds.nd rfl (Or.inl rfl) (pe_cal c__law_row (hr.mono (by decide)) rfl (pa_cons (pv 0) (pa_cons (pv 1) pa_nil))))
  (pss_one (ps_ret (pe_cal c__law_says (hr.mono (by decide)) rfl (pa_cons (pe_cal c_holds (hr.mono (by decide)) rfl (pa_cons (pv 9) (pa_cons (pv 10) pa_nil))) (pa_cons (pe_not (pe_callB (cr_anyI rfl) rfl B.any (by decide +kernel) (pa_cons (pe_cal c__law_times (hr.mono (by decide)) rfl (pa_cons (pv 10) (pa_cons (pv 8) (pa_cons (pv 2) pa_nil)))) pa_nil))) pa_nil)))))))))))))))), ?_⟩
  refine seq_cut (fun σ H1 => ∃ (n : Nat) (x1 y1 : Int), σ = [some (.ref st), some (.int n), none, none, none, none, none, none, none, none, none, none, none, none, none] ∧ H1 st = some (.lst [.int x1, .int y1]) ∧ n ≤ 6) (fun R hR => ?_) ?_
  · walk_at "rs"
    refine ⟨st, x, y, 7, rfl, hst, by decide, by decide +kernel, fun a x1 y1 a0 a1 => ?_⟩
    obtain ⟨n, rfl⟩ : ∃ n : Nat, a = (n : Int) := ⟨a.toNat, by omega⟩
    exact hR _ _ ⟨n, x1, y1, rfl, upd_same, by omega⟩
  rintro σ H1 ⟨n, x1, y1, rfl, hst1, n6⟩
  refine seq_cut (fun σ H1 => ∃ (m : Nat) (x1 y1 : Int), σ = [some (.ref st), some (.int n), some (.int m), none, none, none, none, none, none, none, none, none, none, none, none] ∧ H1 st = some (.lst [.int x1, .int y1]) ∧ m ≤ 6) (fun R hR => ?_) ?_
  · walk_at "rs"
    refine ⟨st, x1, y1, 7, rfl, hst1, by decide, by decide +kernel, fun a x1 y1 a0 a1 => ?_⟩
    obtain ⟨m, rfl⟩ : ∃ n : Nat, a = (n : Int) := ⟨a.toNat, by omega⟩
    exact hR _ _ ⟨m, x1, y1, rfl, upd_same, by omega⟩
  rintro σ H2 ⟨m, x2, y2, rfl, hst2, m6⟩
  refine seq_cut (fun σ H1 => ∃ (e : Nat) (x1 y1 : Int), σ = [some (.ref st), some (.int n), some (.int m), some (.int e), none, none, none, none, none, none, none, none, none, none, none] ∧ H1 st = some (.lst [.int x1, .int y1]) ∧ e ≤ n) (fun R hR => ?_) ?_
  · walk_at "rs"
    refine ⟨st, x2, y2, (n : Int) + 1, rfl, hst2, by omega, log_s (by omega) (by omega), fun a x1 y1 a0 a1 => ?_⟩
    obtain ⟨e, rfl⟩ : ∃ n : Nat, a = (n : Int) := ⟨a.toNat, by omega⟩
    exact hR _ _ ⟨e, x1, y1, rfl, upd_same, by omega⟩
  rintro σ H3 ⟨e, x3, y3, rfl, hst3, en⟩
  refine seq_cut (fun σ H4 => ∃ (pt : Addr) (vs : List V), σ = [some (.ref st), some (.int n), some (.int m), some (.int e), some (.ref pt), none, none, none, none, none, none, none, none, none, none] ∧ Same H3 H4 ∧ pt ≠ st ∧ H4 pt = some (.lst vs) ∧ LRs [st, pt] H4 m vs (List.replicate n fun _ => 0) ∧ vs.Nodup) (fun R hR => ?_) ?_
  · walk_at "rs"
    refine ⟨by omega, by omega, ?_⟩
    rw [Int.toNat_natCast]
    refine LcR.w (fun i D zs H4 => zs.length = i ∧ Same H3 H4 ∧ H4 D = some (.lst zs) ∧ H3 D = none ∧ LRs [st, D] H4 m zs (List.replicate i fun _ => 0) ∧ zs.Nodup) (fun D nD => ⟨rfl, same_upd nD, upd_same, nD, .nil, List.nodup_nil⟩) ?_ ?_
    · rintro D i zs H4 hi ⟨lz, s4, hD, nD, hz, nd⟩ N hN
      walk_at "rd"
      refine ⟨by omega, by omega, ?_⟩
      rw [Int.toNat_natCast]
      refine LcR.p (fun _ => some (V.int 0)) (by omega) ?_ ?_
      · intro j hj H5 s5 M S hM hS
        walk_at "rd"
        exact hM _ _ rfl (Same.refl _)
      · intro D5 H5 nD5 s5 hD5
        rw [fm_mk (fun _ => (0 : Int))] at hD5
        have hD' := s5 _ _ hD
        have ne : D5 ≠ D := fun z => by rw [z, hD] at nD5; cases nD5
        have ne2 : D5 ≠ st := fun z => by rw [z, s4 _ _ hst3] at nD5; cases nD5
        refine ⟨zs, hD', small_size (by omega), hN (zs ++ [.ref D5]) _ ⟨by rw [List.length_append, lz]; rfl, same_at (s4.trans s5) nD, upd_same, nD, ?_, nodup_add hz nd nD5⟩⟩
        rw [List.replicate_succ']
        exact ((hz.bt (Bt.of s5)).app (.cons ⟨D5, rfl, by simp [ne, ne2], hD5⟩ .nil)).bt (Bt.upd (by simp))
    · rintro D zs H4 nD ⟨lz, s4, hD, _, hz, nd⟩
      exact hR _ _ ⟨D, zs, rfl, s4, (fun z => by rw [z, hst3] at nD; cases nD), hD, hz, nd⟩
  rintro σ H4 ⟨pt, vs, rfl, s4, ptst, hpt4, hz4, nd⟩
  have hst4 := s4 _ _ hst3
  obtain ⟨m0, hm0⟩ : ∃ m0 : Nat, m0 = min (n - e) m := ⟨_, rfl⟩
  refine seq_cut (fun σ H5 => ∃ (A : List Vc) (x5 y5 : Int) (s5 : Option V), σ = [some (.ref st), some (.int n), some (.int m), some (.int e), some (.ref pt), s5, none, none, none, none, none, none, none, none, none] ∧ H5 st = some (.lst [.int x5, .int y5]) ∧ H5 pt = some (.lst vs) ∧ LRs [st, pt] H5 m vs A ∧ DiagT n m0 A) (fun R hR => ?_) ?_
  · walk_at "rs"
    have em : (if (m : Int) < (n : Int) - (e : Int) then (m : Int) else (n : Int) - (e : Int)) = (m0 : Int) := by
      rw [hm0]
      split <;> omega
    rw [em]
    refine ⟨by omega, by omega, ?_⟩
    rw [Int.toNat_natCast]
    refine ForR.w (fun i σ H5 => ∃ (A : List Vc) (x5 y5 : Int) (s5 : Option V), σ = [some (.ref st), some (.int n), some (.int m), some (.int e), some (.ref pt), s5, none, none, none, none, none, none, none, none, none] ∧ H5 st = some (.lst [.int x5, .int y5]) ∧ H5 pt = some (.lst vs) ∧ LRs [st, pt] H5 m vs A ∧ DiagT n i A) ⟨_, x3, y3, _, rfl, hst4, hpt4, hz4, DiagT.zero n⟩ ?_ ?_
    · rintro i σ H5 hi ⟨A, x5, y5, s5, rfl, hst5, hpt5, hz5, dA⟩ N hN
      rw [Int.zero_add]
      walk_at "rs"
      refine ⟨st, x5, y5, 9, rfl, hst5, by decide, by decide +kernel, fun d x6 y6 d0 d9 => ?_⟩
      obtain ⟨p, f, ev, ef, npX, hp⟩ := hz5.at (i := i) (by rw [dA.1]; omega)
      have pst : p ≠ st := fun z => npX (by simp [z])
      have ppt : p ≠ pt := fun z => npX (by simp [z])
      have hz6 := hz5.bt (Bt.upd (a := st) (o := .lst [.int x6, .int y6]) (by simp))
      refine ⟨d, rfl, vs, SqL.of (by rw [upd_ne ptst]; exact hpt5), _, atI_nat ev, p, rfl, _, by rw [upd_ne pst]; exact hp, i, by rw [List.length_map, mk_len]; exact ixN_nat (by omega), ?_⟩
      rw [mk_setV]
      exact hN _ _ ⟨_, x6, y6, _, rfl, by rw [upd_ne pst.symm]; exact upd_same, by rw [upd_ne ppt.symm, upd_ne ptst]; exact hpt5, hz6.setAt nd ev, dA.next ef (by omega) (by omega)⟩
    · rintro σ H5 ⟨A, x5, y5, s5, rfl, hst5, hpt5, hz5, dA⟩
      exact hR _ _ ⟨A, x5, y5, s5, rfl, hst5, hpt5, hz5, dA⟩
  rintro σ H5 ⟨A0, x5, y5, s5, rfl, hst5, hpt5, hz5, dA⟩
  refine seq_cut (fun σ H6 => ∃ (pp : Addr) (ap : List Addr) (s5 : Option V), σ = [some (.ref st), some (.int n), some (.int m), some (.int e), some (.ref pt), s5, some (.ref pp), none, none, none, none, none, none, none, none] ∧ Same H5 H6 ∧ pp ≠ st ∧ pp ≠ pt ∧ H5 pp = none ∧ H6 pp = some (.lst (ap.map V.ref)) ∧ LRs [st, pt, pp] H6 n (ap.map V.ref) (unitsFrom m0 (n - m0)) ∧ (ap.map V.ref).Nodup ∧ ∀ a ∈ ap, H5 a = none) (fun R hR => ?_) ?_
  · walk_at "rs"
    have em : (if (m : Int) < (n : Int) - (e : Int) then (m : Int) else (n : Int) - (e : Int)) = (m0 : Int) := by
      rw [hm0]
      split <;> omega
    rw [em]
    refine ⟨by omega, by omega, by omega, by omega, ?_⟩
    rw [show ((n : Int) - (m0 : Int)).toNat = n - m0 by omega]
    refine LcR.w (fun i D zs H6 => ∃ ap : List Addr, zs = ap.map V.ref ∧ zs.length = i ∧ Same H5 H6 ∧ H6 D = some (.lst zs) ∧ H5 D = none ∧ LRs [st, pt, D] H6 n zs (unitsFrom m0 i) ∧ zs.Nodup ∧ ∀ a ∈ ap, H5 a = none) (fun D nD => ⟨[], rfl, rfl, same_upd nD, upd_same, nD, .nil, List.nodup_nil, fun a ha => absurd ha List.not_mem_nil⟩) ?_ ?_
    · rintro D i zs H6 hi ⟨ap, rfl, lz, s6, hD, nD, hz, nd, na⟩ N hN
      walk_at "rd"
      refine ⟨by omega, by omega, ?_⟩
      rw [Int.toNat_natCast]
      refine LcR.p (fun j => some (V.int (unitV (m0 + i) j))) (by omega) ?_ ?_
      · intro j hj H7 s7 M S hM hS
        walk_at "rd"
        rw [show (if decide ((m0 : Int) + (i : Int) = 0 + (j : Int)) = true then (1 : Int) else 0) = unitV (m0 + i) j from ?_]
        · exact hM _ _ rfl (Same.refl _)
        · unfold unitV
          by_cases c : m0 + i = j
          · rw [if_pos c, if_pos (decide_eq_true (by omega))]
          · rw [if_neg c, if_neg (by rw [decide_eq_false (by omega)]; decide)]
      · intro D5 H7 nD5 s7 hD5
        rw [fm_mk (unitV (m0 + i))] at hD5
        have hD' := s7 _ _ hD
        have ne : D5 ≠ D := fun z => by rw [z, hD] at nD5; cases nD5
        have ne2 : D5 ≠ st := fun z => by rw [z, s6 _ _ hst5] at nD5; cases nD5
        have ne3 : D5 ≠ pt := fun z => by rw [z, s6 _ _ hpt5] at nD5; cases nD5
        refine ⟨ap.map V.ref, hD', small_size (by omega), hN (ap.map V.ref ++ [.ref D5]) _ ⟨ap ++ [D5], by rw [List.map_append]; rfl, by rw [List.length_append, lz]; rfl, same_at (s6.trans s7) nD, upd_same, nD, ?_, nodup_add hz nd nD5, fun a ha => ?_⟩⟩
        · rw [unitsFrom_next]
          exact ((hz.bt (Bt.of s7)).app (.cons ⟨D5, rfl, by simp [ne, ne2, ne3], hD5⟩ .nil)).bt (Bt.upd (by simp))
        · rcases List.mem_append.mp ha with ha | ha
          · exact na a ha
          · rw [List.mem_singleton.mp ha]
            exact s6.free nD5
    · rintro D zs H6 nD ⟨ap, rfl, lz, s6, hD, _, hz, nd, na⟩
      exact hR _ _ ⟨D, ap, _, rfl, s6, (fun z => by rw [z, hst5] at nD; cases nD), (fun z => by rw [z, hpt5] at nD; cases nD), nD, hD, hz, nd, na⟩
  rintro σ H6 ⟨pp, ap, s5', rfl, s6, ppst, pppt, npp, hpp6, hq6, ndp, nap⟩
  have hst6 := s6 _ _ hst5
  have hpt6 := s6 _ _ hpt5
  have hz6 : LRs (st :: pt :: pp :: ap) H6 m vs A0 := (hz5.fresh (Y := st :: pt :: pp :: ap) fun a ha => by
    simp only [List.mem_cons] at ha
    rcases ha with rfl | rfl | rfl | ha
    · exact .inl (by simp)
    · exact .inl (by simp)
    · exact .inr npp
    · exact .inr (nap a ha)).bt (Bt.of s6)
  have k0 : KInv n m 4 A0 (unitsFrom m0 (n - m0)) := KInv.first dA (by omega) (by omega)
  have apx : ∀ a ∈ ap, a ≠ st ∧ a ≠ pt ∧ a ≠ pp := fun a ha => by
    obtain ⟨p, e, npX, _⟩ := hq6.ref (.ref a) (List.mem_map.mpr ⟨a, ha, rfl⟩)
    cases e
    simpa using npX
  refine seq_cut (fun σ H7 => ∃ (vs : List V) (A P : List Vc) (x7 y7 : Int) (b : Nat) (s5 s7 s11 s12 s13 s14 : Option V), σ = [some (.ref st), some (.int n), some (.int m), some (.int e), some (.ref pt), s5, some (.ref pp), s7, none, none, none, s11, s12, s13, s14] ∧ b ≤ 16 ∧ H7 st = some (.lst [.int x7, .int y7]) ∧ H7 pt = some (.lst vs) ∧ H7 pp = some (.lst (ap.map V.ref)) ∧ LRs (st :: pt :: pp :: ap) H7 m vs A ∧ LRs [st, pt, pp] H7 n (ap.map V.ref) P ∧ KInv n m b A P) (fun R hR => ?_) ?_
  · walk_at "rs"
    obtain ⟨cN, ec, c6, cn⟩ : ∃ cN : Nat, (6 * if decide ((1 : Int) < (n : Int)) = true then (1 : Int) else 0) = (cN : Int) ∧ cN ≤ 6 ∧ (cN = 0 ∨ 1 < n) := by
      by_cases z : 1 < n
      · exact ⟨6, by rw [if_pos (decide_eq_true (by omega))]; rfl, by decide, .inr z⟩
      · exact ⟨0, by rw [if_neg (by rw [decide_eq_false (by omega)]; decide)]; rfl, by decide, .inl rfl⟩
    rw [ec]
    refine ⟨mulL (by decide), by omega, by omega, ?_⟩
    rw [Int.toNat_natCast]
    refine ForR.w (fun t σ H7 => ∃ (vs : List V) (A P : List Vc) (x7 y7 : Int) (s5 s7 s11 s12 s13 s14 : Option V), σ = [some (.ref st), some (.int n), some (.int m), some (.int e), some (.ref pt), s5, some (.ref pp), s7, none, none, none, s11, s12, s13, s14] ∧ H7 st = some (.lst [.int x7, .int y7]) ∧ KF st pt pp ap n m H7 vs A P ∧ KInv n m (4 + 2 * t) A P) ⟨vs, A0, _, x5, y5, _, _, _, _, _, _, rfl, hst6, ⟨hpt6, hpp6, hz6, hq6⟩, k0⟩ ?_ ?_
    · rintro t σ H7 ht ⟨vs, A, P, x7, y7, s5, s7, s11, s12, s13, s14, rfl, hst7, kF, kI⟩ N hN
      have n1 : 1 < n := by omega
      walk_at "rs"
      rw [CB.rd_seq]
      walk_at "rs"
      refine ⟨st, x7, y7, n, rfl, hst7, by omega, log_s (by omega) (by omega), fun i x8 y8 i0 i1 => ?_⟩
      obtain ⟨i, rfl⟩ : ∃ i' : Nat, i = (i' : Int) := ⟨i.toNat, by omega⟩
      have kF8 := kF.st (o := .lst [.int x8, .int y8]) ptst ppst
      have hst8 : (L2.upd H7 st (.lst [.int x8, .int y8])) st = some (.lst [.int x8, .int y8]) := upd_same
      generalize L2.upd H7 st (.lst [.int x8, .int y8]) = H8 at *
      rw [CB.rd_seq]
      walk_at "rs"
      refine ⟨st, x8, y8, (n : Int) - 1, rfl, hst8, by omega, log_s (by omega) (by omega), fun t2 x9 y9 t0 t1 => ?_⟩
      have kF9 := kF8.st (o := .lst [.int x9, .int y9]) ptst ppst
      have hst9 : (L2.upd H8 st (.lst [.int x9, .int y9])) st = some (.lst [.int x9, .int y9]) := upd_same
      generalize L2.upd H8 st (.lst [.int x9, .int y9]) = H9 at *
      refine ⟨t2, rfl, by omega, ?_⟩
      obtain ⟨j, ej, jn, ij⟩ : ∃ j : Nat, ((i : Int) + 1 + t2) % (n : Int) = (j : Int) ∧ j < n ∧ i ≠ j := by
        have e0 := Int.emod_nonneg ((i : Int) + 1 + t2) (show (n : Int) ≠ 0 by omega)
        have e1 := Int.emod_lt_of_pos ((i : Int) + 1 + t2) (show (0 : Int) < n by omega)
        have e2 := Int.emod_add_mul_ediv ((i : Int) + 1 + t2) (n : Int)
        refine ⟨(((i : Int) + 1 + t2) % (n : Int)).toNat, by omega, by omega, fun z => ?_⟩
        rw [show ((i : Int) + 1 + t2) % (n : Int) = i by omega] at e2
        generalize ((i : Int) + 1 + t2) / (n : Int) = qq at e2
        rcases (show qq < 1 ∨ 1 ≤ qq by omega) with h | h
        · have := Int.mul_le_mul_of_nonneg_left (a := qq) (b := 0) (c := (n : Int)) (by omega) (by omega)
          omega
        · have := Int.mul_le_mul_of_nonneg_left (a := 1) (b := qq) (c := (n : Int)) (by omega) (by omega)
          omega
      rw [ej]
      rw [CB.rd_seq]
      walk_at "rs"
      refine ⟨st, x9, y9, 5, rfl, hst9, by decide, by decide +kernel, fun c x10 y10 c0 c5 => ?_⟩
      have kF10 := kF9.st (o := .lst [.int x10, .int y10]) ptst ppst
      have hst10 : (L2.upd H9 st (.lst [.int x10, .int y10])) st = some (.lst [.int x10, .int y10]) := upd_same
      generalize L2.upd H9 st (.lst [.int x10, .int y10]) = H10 at *
      refine ⟨c, rfl, ?_⟩
      obtain ⟨pi, fi, evi, efi, npi, hpi⟩ := kF10.z.at (i := i) (by rw [kI.len]; omega)
      obtain ⟨pj, fj, evj, efj, npj, hpj⟩ := kF10.z.at (i := j) (by rw [kI.len]; omega)
      have bi := kI.bdA fi (List.mem_of_getElem? efi)
      have bj := kI.bdA fj (List.mem_of_getElem? efj)
      refine seq_cut (fun σ H11 => ∃ (D5 : Addr) (s14 : Option V), σ = [some (.ref st), some (.int n), some (.int m), some (.int e), some (.ref pt), some (.int i), some (.ref pp), some (.int (0 + t)), none, none, none, some (.int j), some (.int (c - 2)), s13, s14] ∧ H11 st = some (.lst [.int x10, .int y10]) ∧ KF st pt pp ap n m H11 (vs.set i (.ref D5)) (A.set i fun k => fi k + (c - 2) * fj k) P) (fun R2 hR2 => ?_) ?_
      · walk_at "rs"
        refine ⟨by omega, by omega, ?_⟩
        rw [Int.toNat_natCast]
        refine LcR.p (fun k => some (V.int (fi k + (c - 2) * fj k))) (by omega) ?_ ?_
        · intro k hk H11 s11 M S hM hS
          walk_at "rd"
          rw [Int.zero_add]
          exact ⟨_, SqL.of (s11 _ _ kF10.hpt), _, atI_nat evi, pi, rfl, _, SqL.of (s11 _ _ hpi), _, atI_mk hk, _, SqL.of (s11 _ _ kF10.hpt), _, atI_nat evj, pj, rfl, _, SqL.of (s11 _ _ hpj), _, atI_mk hk, _, rfl, (show Sz 3 (c - 2) by unfold Sz; omega).ok (bj k) (by decide) (by omega), _, rfl, hM _ _ rfl (Same.refl _)⟩
        · intro D5 H11 nD5 s11 hD5
          rw [fm_mk (fun k => fi k + (c - 2) * fj k)] at hD5
          have notin : D5 ∉ st :: pt :: pp :: ap := fun z => by
            simp only [List.mem_cons] at z
            rcases z with rfl | rfl | rfl | z
            · rw [hst10] at nD5; cases nD5
            · rw [kF10.hpt] at nD5; cases nD5
            · rw [kF10.hpp] at nD5; cases nD5
            · obtain ⟨p, e, _, l, hl⟩ := kF10.q.ref (.ref D5) (List.mem_map.mpr ⟨D5, z, rfl⟩)
              cases e
              rw [hl] at nD5; cases nD5
          refine ⟨vs, s11 _ _ kF10.hpt, i, ixN_nat (List.getElem?_eq_some_iff.mp evi).1, hR2 _ _ ⟨D5, _, rfl, by rw [upd_ne ptst.symm]; exact s11 _ _ hst10, upd_same, by rw [upd_ne pppt]; exact s11 _ _ kF10.hpp, ((kF10.z.bt (Bt.of s11)).set ⟨D5, rfl, notin, hD5⟩ i).bt (Bt.upd (by simp)), (kF10.q.bt (Bt.of s11)).bt (Bt.upd (by simp))⟩⟩
      rintro σ H11 ⟨D5, s14', rfl, hst11, kF11⟩
      have kI' := kI.next efi efj ij (c := c - 2) (by omega) (by omega)
      walk_at "rs"
      refine ⟨⟨_, SqL.of kF11.hpp⟩, ForL.w (xs := ap.map V.ref) (fun r σ H12 => ∃ (s13 : Option V), σ = [some (.ref st), some (.int n), some (.int m), some (.int e), some (.ref pt), some (.int i), some (.ref pp), some (.int (0 + t)), none, none, none, some (.int j), some (.int (c - 2)), s13, s14'] ∧ H12 st = some (.lst [.int x10, .int y10]) ∧ KF st pt pp ap n m H12 (vs.set i (.ref D5)) (A.set i fun k => fi k + (c - 2) * fj k) ((P.take r).map (phi i j (c - 2)) ++ P.drop r)) ⟨_, rfl, hst11, kF11⟩ ?_ ?_ ?_⟩
      · rintro r σ H12 _ ⟨s13, rfl, _, kF12⟩
        exact SqL.of kF12.hpp
      · rintro r v σ H12 hv ⟨s13, rfl, hst12, kF12⟩ N2 hN2
        obtain ⟨f, hf, pr, rfl, npr, hpr⟩ := kF12.q.get hv
        obtain ⟨ePr, eset⟩ := turn_row (φ := phi i j (c - 2)) hf
        have bf := kI.bdP f (List.mem_of_getElem? ePr)
        have prap : pr ∈ ap := by
          obtain ⟨a, ha, e⟩ := List.mem_map.mp (List.mem_of_getElem? hv)
          cases e
          exact ha
        have ne := apx pr prap
        walk_at "rs"
        refine ⟨_, SqL.of hpr, _, atI_mk jn, _, SqL.of hpr, _, atI_mk (by omega), _, rfl, (show Sz 3 (c - 2) by unfold Sz; omega).ok (bf i) (by decide) (by omega), _, rfl, _, hpr, j, by rw [List.length_map, mk_len]; exact ixN_nat jn, ?_⟩
        rw [mk_setV]
        refine hN2 _ _ ⟨_, rfl, by rw [upd_ne ne.1.symm]; exact hst12, by rw [upd_ne ne.2.1.symm]; exact kF12.hpt, by rw [upd_ne ne.2.2.symm]; exact kF12.hpp, kF12.z.bt (Bt.upd (by simp [prap])), ?_⟩
        rw [← eset]
        exact kF12.q.setAt ndp hv
      · rintro σ H12 ⟨s13, rfl, hst12, kF12⟩
        have lP : (ap.map V.ref).length = P.length := by
          have := kF12.q.len
          rw [List.length_append, List.length_map, List.length_map, List.length_take, List.length_drop] at this
          rw [List.length_map]
          omega
        rw [lP, List.take_length, List.drop_length, List.append_nil] at kF12
        exact hN _ _ ⟨_, _, _, x10, y10, _, _, _, _, _, _, rfl, hst12, kF12, kI'⟩
    · rintro σ H7 ⟨vs, A, P, x7, y7, s5, s7, s11, s12, s13, s14, rfl, hst7, kF, kI⟩
      exact hR _ _ ⟨vs, A, P, x7, y7, _, s5, s7, s11, s12, s13, s14, rfl, by omega, hst7, kF.hpt, kF.hpp, kF.z, kF.q, kI⟩
  rintro σ H7 ⟨vs7, A, P, x7, y7, b, s5, s7, s11, s12, s13, s14, rfl, b16, hst7, hpt7, hpp7, hz7, hq7, kI⟩
  refine seq_cut (fun σ H8 => ∃ (pr : Addr) (us : List V) (s13 : Option V), σ = [some (.ref st), some (.int n), some (.int m), some (.int e), some (.ref pt), s5, some (.ref pp), s7, some (.ref pr), none, none, s11, s12, s13, s14] ∧ Same H7 H8 ∧ H7 pr = none ∧ H8 pr = some (.lst us) ∧ Rws H8 m us A) (fun R hR => ?_) ?_
  · walk_at "rs"
    refine ⟨⟨_, SqL.of hpt7⟩, LcL.w (xs := vs7) (fun i D zs H8 => zs.length = i ∧ Rws H8 m zs (A.take i) ∧ Same H7 H8 ∧ H8 D = some (.lst zs) ∧ H7 D = none) (fun D nD => ⟨rfl, .nil, same_upd nD, upd_same, nD⟩) ?_ ?_ ?_⟩
    · rintro D i zs H8 _ ⟨_, _, s8, _, _⟩
      exact SqL.of (s8 _ _ hpt7)
    · rintro D i v zs H8 hv ⟨lz, hz, s8, hD, nD⟩ N hN
      have hi : i < vs7.length := (List.getElem?_eq_some_iff.mp hv).1
      have l6 : vs7.length = n := by rw [hz7.len, kI.len]
      obtain ⟨f, hf, p, rfl, npX, hp⟩ := hz7.get hv
      walk_at "rd"
      refine ⟨_, .inl ⟨SqL.of (s8 _ _ hp), fun l nl => ?_⟩⟩
      have sl : Same H8 (L2.upd H8 l (.tup ((mk m f).map V.int))) := same_upd nl
      refine ⟨zs, sl _ _ hD, small_size (by omega), hN (zs ++ [.ref l]) _ ⟨by rw [List.length_append, lz]; rfl, ?_, same_at (s8.trans sl) nD, upd_same, nD⟩⟩
      rw [List.take_add_one, hf]
      exact ((hz.same sl).updL (sl _ _ hD)).app (.cons (Rw.updL ⟨l, rfl, upd_same⟩ (sl _ _ hD)) .nil)
    · rintro D zs H8 nD ⟨lz, hz, s8, hD, _⟩
      rw [hz7.len, List.take_length] at hz
      exact hR _ _ ⟨D, zs, _, rfl, s8, nD, hD, hz⟩
  rintro σ H8 ⟨pr, us, s13', rfl, s8, npr7, hpr8, hR8⟩
  refine seq_cut (fun σ H9 => ∃ (pf : Addr) (zs : List V) (T : List Vc), σ = [some (.ref st), some (.int n), some (.int m), some (.int e), some (.ref pt), s5, some (.ref pp), s7, some (.ref pr), some (.ref pf), none, s11, s12, s13', s14] ∧ Same H8 H9 ∧ H9 pf = some (.tup zs) ∧ Rws H9 n zs T ∧ TbP n (Ker n A) T ∧ ∀ f ∈ T, Sup n f) (fun R hR => ?_) ?_
  · walk_at "rs"
    have bA : ∀ f ∈ A, Bd mm f := fun f hf => (kI.bdA f hf).le (by have : mm = 18 := rfl; omega)
    refine ⟨us, .inl ⟨SqL.of hpr8, fun l nl => ?_⟩⟩
    have sl : Same H8 (L2.upd H8 l (.tup us)) := same_upd nl
    refine ⟨l, us, A, m, rfl, SqT.of upd_same, hR8.same sl, by rw [kI.len]; omega, kI.supA, bA, fun r zs T H9 s9 hr9 hz9 tP sT => ?_⟩
    rw [kI.len] at hz9 tP sT
    have lz := hz9.len
    have l12 : T.length ≤ 12 := by
      rcases tP.ech.len with h | h
      · omega
      · rw [h]; exact Nat.zero_le _
    refine .inr (.inr ⟨r, zs, T, n, rfl, SqT.of hr9, hz9, by omega, by omega, fun p2 zs2 H10 s10 hp10 hz10 => ?_⟩)
    exact hR _ _ ⟨p2, zs2, T, rfl, sl.trans (s9.trans s10), hp10, hz10, tP, sT⟩
  rintro σ H9 ⟨pf, zs, T, rfl, s9, hpf9, hz9, tP, sT⟩
  rw [CB.rd_seq]
  walk_at "rs"
  have bP : ∀ f ∈ P, Bd mm f := fun f hf => (kI.bdP f hf).le (by have : mm = 18 := rfl; omega)
  have hpp9 := s9 _ _ (s8 _ _ hpp7)
  have hq9 := (hq7.bt (Bt.of s8)).bt (Bt.of s9)
  have lap : (ap.map V.ref).length = n - m0 := by
    rw [hq6.len]
    unfold unitsFrom
    rw [List.length_map, List.length_range]
  refine ⟨⟨_, SqL.of hpp9⟩, LcL.w (xs := ap.map V.ref) (fun i D zs H10 => zs.length = i ∧ Rws H10 n zs (P.take i) ∧ Same H9 H10 ∧ H10 D = some (.lst zs) ∧ H9 D = none) (fun D nD => ⟨rfl, .nil, same_upd nD, upd_same, nD⟩) ?_ ?_ ?_⟩
  · rintro D i zs H10 _ ⟨_, _, s10, _, _⟩
    exact SqL.of (s10 _ _ hpp9)
  · rintro D i v zs H10 hv ⟨lz, hz, s10, hD, nD⟩ N hN
    have hi : i < (ap.map V.ref).length := (List.getElem?_eq_some_iff.mp hv).1
    obtain ⟨f, hf, p, rfl, npX, hp⟩ := hq9.get hv
    walk_at "rd"
    refine ⟨_, .inl ⟨SqL.of (s10 _ _ hp), fun l nl => ?_⟩⟩
    have sl : Same H10 (L2.upd H10 l (.tup ((mk n f).map V.int))) := same_upd nl
    refine ⟨zs, sl _ _ hD, small_size (by omega), hN (zs ++ [.ref l]) _ ⟨by rw [List.length_append, lz]; rfl, ?_, same_at (s10.trans sl) nD, upd_same, nD⟩⟩
    rw [List.take_add_one, hf]
    exact ((hz.same sl).updL (sl _ _ hD)).app (.cons (Rw.updL ⟨l, rfl, upd_same⟩ (sl _ _ hD)) .nil)
  rintro D zs10 H10 nD ⟨lz, hz, s10, hD, _⟩
  rw [hq9.len, List.take_length] at hz
  have lP : P.length = n - m0 := by rw [← lap, hq9.len]
  refine ⟨D, zs10, P, n, rfl, .inl (SqL.of hD), hz, by omega, by omega, kI.supP, bP, fun r ws T2 H11 s11 hr11 hw11 tb pv bv => ?_⟩
  have eT : T = T2 := tP.uniq tb.toP kI.iff
  subst eT
  have lT := hw11.len
  have l12 : T.length ≤ 12 := by
    rcases tP.ech.len with h | h
    · omega
    · rw [h]; exact Nat.zero_le _
  refine .inr (.inr ⟨r, ws, T, n, rfl, SqT.of hr11, hw11, by omega, by omega, fun p2 ws2 H12 s12 hp12 hw12 => ?_⟩)
  have s92 : Same H9 H12 := s10.trans (s11.trans s12)
  have s72 : Same H7 H12 := s8.trans (s9.trans s92)
  have hpf12 := s92 _ _ hpf9
  refine ⟨dRs (rL n T), dRs (rL n T), dp_Rs (SqT.of hpf12) (hz9.same s92), dp_Rs (SqT.of hp12) hw12, shaped_rows _, shaped_rows _, ?_⟩
  rw [eqv_rows, decide_eq_true rfl]
  refine ⟨_, rfl, ?_⟩
  rw [if_neg (by decide)]
  refine isi_mk (.base (.tup hpf12)) (b := true) (by decide +kernel) ⟨true, rfl, ?_⟩
  rw [if_neg (by decide)]
  have hst12 := s72 _ _ hst7
  rw [CB.rd_seq]
  walk_at "rs"
  refine ⟨st, x7, y7, n, rfl, hst12, by omega, fun px f x13 y13 H13 b13 hst13 hx13 sx bx => ?_⟩
  have pfst : pf ∉ [st] := fun z => by rw [List.mem_singleton.mp z, hst12] at hpf12; cases hpf12
  have hpf13 := b13 _ _ pfst hpf12
  have hz13 := (hz9.same s92).bt0 b13 hst12
  have prst : pr ∉ [st] := fun z => by
    rw [List.mem_singleton.mp z, hst7] at npr7
    cases npr7
  have hpr13 := b13 _ _ prst (s92 _ _ (s9 _ _ hpr8))
  have hR13 := ((hR8.same s9).same s92).bt0 b13 hst12
  have m9 : 12 * mm + 60 ≤ 9000 := by decide
  have e9 : 24 * mm + 124 ≤ 3000 := by decide
  have l9 := Nat.mul_le_mul l12 e9
  refine ⟨pf, .ref px, zs, T, f, n, 0, 24 * mm + 124, 51, rfl, SqT.of hpf13, hz13, ⟨px, rfl, hx13⟩, by omega, tP.ech, tP.red.pos, bv, fun g hg => (pv g hg).le m9, bx, by omega, by omega, fun H14 s14 => ?_⟩
  refine ⟨px, pr, us, f, A, m, rfl, by rw [kI.len]; exact s14 _ _ hx13, s14 _ _ hpr13, hR13.same s14, by omega, by rw [kI.len]; omega, fun g hg i k => (bx k).ok (kI.bdA g hg i) (by decide) (by omega), fun r15 H15 s15 hr15 => ?_⟩
  refine ⟨r15, rfl, mk m (cmbF f A), .inr (SqT.of hr15), ?_⟩
  rw [any_mk]
  refine ⟨_, _, rfl, ?_⟩
  have key : (!decide (pvt n (rst n T f) < n)) = !decide (pvt m (cmbF f A) < m) := by
    have h1 := pvt_all (rst_sup sT sx)
    have h2 := pvt_all (cmbF_supW kI.supA (c := f))
    have h3 : (∀ i, rst n T f i = 0) ↔ ∀ i, cmbF f A i = 0 := by
      rw [rst_iff tP.ech tP.red.pos, tP.iff]
      exact ⟨fun z => z.2, fun z => ⟨sx, z⟩⟩
    have h4 : ¬ pvt n (rst n T f) < n ↔ ¬ pvt m (cmbF f A) < m := by rw [h1, h2, h3]
    congr 1
    exact decide_eq_decide.mpr (by
      constructor
      · intro a
        exact Decidable.by_contra fun b => (h4.mpr b) a
      · intro a
        exact Decidable.by_contra fun b => (h4.mp b) a)
  rw [decide_eq_true key]
  exact q _ _ _ (s15 _ _ (s14 _ _ hst13))
end

local macro_rules | `(tactic| walk_at "rd") => `(tactic| simp (maxSteps := 2000000) only [CB.rd_var, CB.rd_C, CB.rd_op, CB.rd_un, CB.rd_I, CB.rd_I0, CB.rd_U, CB.rd_Eq, CB.rd_Ne, CB.rd_test, CB.rd_B, CB.rd_and, CB.rd_or, CB.rd_not, CB.rd_andV, CB.rd_orV, CB.rd_notV, CB.rd_if, CB.rd_chain, CB.rd_chain3,
  CB.rd_next, CB.rd_seq, CB.rd_drop, CB.rd_ret, CB.rd_retN, CB.rd_break, CB.rd_cont, CB.rd_ifS, CB.rd_asg, CB.rd_name, CB.rd_gsub, CB.rd_gtup, CB.rd_gcons, CB.rd_gnil, CB.rd_par, CB.rd_aug, CB.rd_ipI, CB.rd_nil, CB.rd_cons, CB.rd_tup, CB.rd_lst, CB.rd_CB, CB.rd_call, CB.rd_callS, CB.rd_ixL, CB.rd_ixT, CB.rd_setL, CB.rd_putS, CB.rd_forZ, CB.rd_lcZ, CB.rd_forE, CB.rd_forEL, CB.rd_lcE, CB.rd_isqrt, CB.rd_sum, CB.rd_append, CB.rd_forL, CB.rd_forT, CB.rd_forR1, CB.rd_forR2, CB.rd_forR3, CB.rd_lcL, CB.rd_lcT, CB.rd_lcR1, CB.rd_lcR2, CB.rd_yes, CB.rd_sl, CB.rd_noPart, CB.rd_part, CB.rd_slL, CB.rd_wipe0, CB.rd_rep, CB.rd_tupOf, CB.rd_lenS, CB.rd_gcd, CB.rd_wipe1, CB.rd_sorted3, CB.rd_any, CB.rd_all, CB.rd_ext, CB.rd_glst, CB.rd_sortedM, CB.rd_minD, CB.rd_indexD, CB.rd_pop, CB.rd_dnew, CB.rd_dget, CB.rd_dget2, CB.rd_dput, CB.rd_dm, CB.rd_anyI, CB.rd_ixDC, CB.rd_inDC, CB.rd_cat, CB.rd_lcZR, CB.rd_revR1, CB.rd_max2, CB.rd_forRv, CB.rd_ins, CB.rd_revT, CB.rd_listOf, CB.rd_inI, CB.rd_idxI,
  L2.start, List.map_cons, List.map_nil, List.length_cons, List.length_nil, Nat.reduceAdd, Nat.reduceSub, List.replicate_succ, List.replicate_zero,
  V.int.injEq, V.ref.injEq, V.bl.injEq, V.str.injEq, Option.some.injEq, List.cons.injEq, exists_and_left, exists_eq_left', exists_eq_left, reduceCtorEq, false_and, and_false, or_false, false_or, exists_false, exists_const, and_assoc, true_and, and_true,
  CB.scal_int, CB.scal_str, CB.dec_ii, CB.ite_dec, CB.ite_ndec, List.getElem?_cons_zero, List.getElem?_cons_succ, List.set_cons_zero, List.set_cons_succ, List.append_nil, List.cons_append, List.nil_append, if_true, if_false, Bool.false_eq_true, Bool.not_true, Bool.not_false, CB.K_nox, CB.K_cxOf, eq_self])
local macro_rules | `(tactic| walk_at "rs") => `(tactic| simp (maxSteps := 2000000) only [CB.rd_var, CB.rd_C, CB.rd_op, CB.rd_un, CB.rd_I, CB.rd_I0, CB.rd_U, CB.rd_Eq, CB.rd_Ne, CB.rd_test, CB.rd_B, CB.rd_and, CB.rd_or, CB.rd_not, CB.rd_andV, CB.rd_orV, CB.rd_notV, CB.rd_if, CB.rd_chain, CB.rd_chain3,
  CB.rd_next, CB.rd_drop, CB.rd_ret, CB.rd_retN, CB.rd_break, CB.rd_cont, CB.rd_ifS, CB.rd_asg, CB.rd_name, CB.rd_gsub, CB.rd_gtup, CB.rd_gcons, CB.rd_gnil, CB.rd_par, CB.rd_aug, CB.rd_ipI, CB.rd_nil, CB.rd_cons, CB.rd_tup, CB.rd_lst, CB.rd_CB, CB.rd_call, CB.rd_callS, CB.rd_ixL, CB.rd_ixT, CB.rd_setL, CB.rd_putS, CB.rd_forZ, CB.rd_lcZ, CB.rd_forE, CB.rd_forEL, CB.rd_lcE, CB.rd_isqrt, CB.rd_sum, CB.rd_append, CB.rd_forL, CB.rd_forT, CB.rd_forR1, CB.rd_forR2, CB.rd_forR3, CB.rd_lcL, CB.rd_lcT, CB.rd_lcR1, CB.rd_lcR2, CB.rd_yes, CB.rd_sl, CB.rd_noPart, CB.rd_part, CB.rd_slL, CB.rd_wipe0, CB.rd_rep, CB.rd_tupOf, CB.rd_lenS, CB.rd_gcd, CB.rd_wipe1, CB.rd_sorted3, CB.rd_any, CB.rd_all, CB.rd_ext, CB.rd_glst, CB.rd_sortedM, CB.rd_minD, CB.rd_indexD, CB.rd_pop, CB.rd_dnew, CB.rd_dget, CB.rd_dget2, CB.rd_dput, CB.rd_dm, CB.rd_anyI, CB.rd_ixDC, CB.rd_inDC, CB.rd_cat, CB.rd_lcZR, CB.rd_revR1, CB.rd_max2, CB.rd_forRv, CB.rd_ins, CB.rd_revT, CB.rd_listOf, CB.rd_inI, CB.rd_idxI,
  L2.start, List.map_cons, List.map_nil, List.length_cons, List.length_nil, Nat.reduceAdd, Nat.reduceSub, List.replicate_succ, List.replicate_zero,
  V.int.injEq, V.ref.injEq, V.bl.injEq, V.str.injEq, Option.some.injEq, List.cons.injEq, exists_and_left, exists_eq_left', exists_eq_left, reduceCtorEq, false_and, and_false, or_false, false_or, exists_false, exists_const, and_assoc, true_and, and_true,
  CB.scal_int, CB.scal_str, CB.dec_ii, CB.ite_dec, CB.ite_ndec, List.getElem?_cons_zero, List.getElem?_cons_succ, List.set_cons_zero, List.set_cons_succ, List.append_nil, List.cons_append, List.nil_append, if_true, if_false, Bool.false_eq_true, Bool.not_true, Bool.not_false, CB.K_nox, CB.K_cxOf, eq_self])

local macro_rules | `(tactic| walk_at "nx") => `(tactic| (show tSeq _ _ _ _ _; rw [CB.rd_seq]; walk_at "rs"))


section
variable {P : Program} {w : World} {K : PySem.W.Frag} {mg : Str → Option Value} {base : Heap} {CM CR : Addr}
abbrev s_law : Stmt := top 32
theorem sc_law : FnScope ["script", "state"] ["script"] (defScope s_law) := ⟨rfl, rfl, rfl, by decide +kernel, rfl, by decide +kernel, by decide +kernel⟩

def spLaw (K : PySem.W.Frag) : Sp := fun vs H Q _ => ∃ (a : Addr) (ns : List Int), vs = [.ref a] ∧ SqL K H a (ns.map V.int) ∧ ns.length ≤ 63 ∧ ∀ H', Q (.bl true) H'
theorem ok_law {f : Addr} {fd : FuncData} (F : Fun K "law" "law" s_law f fd) (B : Bl mg) (c__law_state : Cal P w K mg base "_law_state" 1 ["script"] (spState K)) (c__law_kernel_holds : Cal P w K mg base "_law_kernel_holds" 8 ["state"] spPH) (c__law_plain_holds : Cal P w K mg base "_law_plain_holds" 5 ["state"] spPH) : FnOk P w K mg base CX0 9 f fd ["script"] (spLaw K) := by
  refine F.ok sc_law (fun vs H Q E h => by obtain ⟨a, ns, rfl, _⟩ := h; rfl) (fun cdv A outer s H vs Q E hr h => ?_)
  obtain ⟨a, ns, rfl, hS, hl, q⟩ := h
  refine ⟨_, (pss_cons (ps_set (i := 1) sc_law.nd rfl (Or.inl rfl) (pe_cal c__law_state (hr.mono (by decide)) rfl (pa_cons (pv 0) pa_nil)))
  (pss_one (ps_ret (pe_and (pe_cal c__law_plain_holds (hr.mono (by decide)) rfl (pa_cons (pv 1) pa_nil)) (pe_one (pe_cal c__law_kernel_holds (hr.mono (by decide)) rfl (pa_cons (pv 1) pa_nil))))))), ?_⟩
  rw [CB.rd_seq]
  walk_at "rs"
  refine ⟨a, ns, rfl, hS, hl, fun st x y H1 s1 n1 hst => ?_⟩
  refine ⟨st, x, y, rfl, hst, fun x2 y2 H2 hst2 => ⟨true, rfl, ?_⟩⟩
  rw [if_pos rfl]
  exact ⟨st, x2, y2, rfl, hst2, fun x3 y3 H3 _ => q H3⟩
end

theorem all_mk {l : PySem.W.OpenLaw} {w : World} {K : PySem.W.Frag} {h : Heap} {mg : Str → Option Value} {fa f__law_take f__law_state f_is_integer f_is_row f_combination f_add f_scaled f__pivot f_rest f__merged f__tidied f__with_row f_span f_holds f__law_inner f__law_plain f__law_says f__unit_row f__with_units f_kernel f_dot f_moved f__law_whole f__law_same f__law_row f__law_dot f__law_times f__law_plain_holds f__law_kernel_holds f_law : Addr} (X : K.In h) (G : h.Ns mainGlobals mg) (hfa : mg "law" = some (.ref fa))
    {od__law_take an__law_take od__law_state an__law_state od_is_integer an_is_integer od_is_row an_is_row od_combination an_combination od_add an_add od_scaled an_scaled od__pivot an__pivot od_rest an_rest od__merged an__merged od__tidied an__tidied od__with_row an__with_row od_span an_span od_holds an_holds od__law_inner an__law_inner od__law_plain an__law_plain od__law_says an__law_says od__unit_row an__unit_row od__with_units an__with_units od_kernel an_kernel od_dot an_dot od_moved an_moved od__law_whole an__law_whole od__law_same an__law_same od__law_row an__law_row od__law_dot an__law_dot od__law_times an__law_times od__law_plain_holds an__law_plain_holds od__law_kernel_holds an__law_kernel_holds od_law an_law : Option Addr} {sl__law_take sl__law_state sl_is_integer sl_is_row sl_combination sl_add sl_scaled sl__pivot sl_rest sl__merged sl__tidied sl__with_row sl_span sl_holds sl__law_inner sl__law_plain sl__law_says sl__unit_row sl__with_units sl_kernel sl_dot sl_moved sl__law_whole sl__law_same sl__law_row sl__law_dot sl__law_times sl__law_plain_holds sl__law_kernel_holds sl_law : Array (Option Value)} {oc__law_take kV__law_take dc__law_take pm__law_take cd__law_take ct__law_take oc__law_state kV__law_state dc__law_state pm__law_state cd__law_state ct__law_state oc_is_integer kV_is_integer dc_is_integer pm_is_integer cd_is_integer ct_is_integer oc_is_row kV_is_row dc_is_row pm_is_row cd_is_row ct_is_row oc_combination kV_combination dc_combination pm_combination cd_combination ct_combination oc_add kV_add dc_add pm_add cd_add ct_add oc_scaled kV_scaled dc_scaled pm_scaled cd_scaled ct_scaled oc__pivot kV__pivot dc__pivot pm__pivot cd__pivot ct__pivot oc_rest kV_rest dc_rest pm_rest cd_rest ct_rest oc__merged kV__merged dc__merged pm__merged cd__merged ct__merged oc__tidied kV__tidied dc__tidied pm__tidied cd__tidied ct__tidied oc__with_row kV__with_row dc__with_row pm__with_row cd__with_row ct__with_row oc_span kV_span dc_span pm_span cd_span ct_span oc_holds kV_holds dc_holds pm_holds cd_holds ct_holds oc__law_inner kV__law_inner dc__law_inner pm__law_inner cd__law_inner ct__law_inner oc__law_plain kV__law_plain dc__law_plain pm__law_plain cd__law_plain ct__law_plain oc__law_says kV__law_says dc__law_says pm__law_says cd__law_says ct__law_says oc__unit_row kV__unit_row dc__unit_row pm__unit_row cd__unit_row ct__unit_row oc__with_units kV__with_units dc__with_units pm__with_units cd__with_units ct__with_units oc_kernel kV_kernel dc_kernel pm_kernel cd_kernel ct_kernel oc_dot kV_dot dc_dot pm_dot cd_dot ct_dot oc_moved kV_moved dc_moved pm_moved cd_moved ct_moved oc__law_whole kV__law_whole dc__law_whole pm__law_whole cd__law_whole ct__law_whole oc__law_same kV__law_same dc__law_same pm__law_same cd__law_same ct__law_same oc__law_row kV__law_row dc__law_row pm__law_row cd__law_row ct__law_row oc__law_dot kV__law_dot dc__law_dot pm__law_dot cd__law_dot ct__law_dot oc__law_times kV__law_times dc__law_times pm__law_times cd__law_times ct__law_times oc__law_plain_holds kV__law_plain_holds dc__law_plain_holds pm__law_plain_holds cd__law_plain_holds ct__law_plain_holds oc__law_kernel_holds kV__law_kernel_holds dc__law_kernel_holds pm__law_kernel_holds cd__law_kernel_holds ct__law_kernel_holds oc_law kV_law dc_law pm_law cd_law ct_law : Value}
    (a__law_take : PySem.W.nsIn K mainGlobals "_law_take" = some (some (.ref f__law_take)))
    (l__law_take : K.lookup f__law_take = some ⟨oc__law_take, od__law_take, .func (PySem.W.fnOf "_law_take" "_law_take" (defArgs s__law_take) (defBody s__law_take) (defScope s__law_take) .none kV__law_take dc__law_take pm__law_take an__law_take cd__law_take ct__law_take), sl__law_take⟩)
    (c__law_take : PySem.W.codeIn K cd__law_take "_law_take" = true)
    (k__law_take : PySem.W.keepIn K (.ref f__law_take) = true)
    (a__law_state : PySem.W.nsIn K mainGlobals "_law_state" = some (some (.ref f__law_state)))
    (l__law_state : K.lookup f__law_state = some ⟨oc__law_state, od__law_state, .func (PySem.W.fnOf "_law_state" "_law_state" (defArgs s__law_state) (defBody s__law_state) (defScope s__law_state) .none kV__law_state dc__law_state pm__law_state an__law_state cd__law_state ct__law_state), sl__law_state⟩)
    (c__law_state : PySem.W.codeIn K cd__law_state "_law_state" = true)
    (k__law_state : PySem.W.keepIn K (.ref f__law_state) = true)
    (a_is_integer : PySem.W.nsIn K mainGlobals "is_integer" = some (some (.ref f_is_integer)))
    (l_is_integer : K.lookup f_is_integer = some ⟨oc_is_integer, od_is_integer, .func (PySem.W.fnOf "is_integer" "is_integer" (defArgs s_is_integer) (defBody s_is_integer) (defScope s_is_integer) .none kV_is_integer dc_is_integer pm_is_integer an_is_integer cd_is_integer ct_is_integer), sl_is_integer⟩)
    (c_is_integer : PySem.W.codeIn K cd_is_integer "is_integer" = true)
    (k_is_integer : PySem.W.keepIn K (.ref f_is_integer) = true)
    (a_is_row : PySem.W.nsIn K mainGlobals "is_row" = some (some (.ref f_is_row)))
    (l_is_row : K.lookup f_is_row = some ⟨oc_is_row, od_is_row, .func (PySem.W.fnOf "is_row" "is_row" (defArgs s_is_row) (defBody s_is_row) (defScope s_is_row) .none kV_is_row dc_is_row pm_is_row an_is_row cd_is_row ct_is_row), sl_is_row⟩)
    (c_is_row : PySem.W.codeIn K cd_is_row "is_row" = true)
    (k_is_row : PySem.W.keepIn K (.ref f_is_row) = true)
    (a_combination : PySem.W.nsIn K mainGlobals "combination" = some (some (.ref f_combination)))
    (l_combination : K.lookup f_combination = some ⟨oc_combination, od_combination, .func (PySem.W.fnOf "combination" "combination" (defArgs s_combination) (defBody s_combination) (defScope s_combination) .none kV_combination dc_combination pm_combination an_combination cd_combination ct_combination), sl_combination⟩)
    (c_combination : PySem.W.codeIn K cd_combination "combination" = true)
    (k_combination : PySem.W.keepIn K (.ref f_combination) = true)
    (a_add : PySem.W.nsIn K mainGlobals "add" = some (some (.ref f_add)))
    (l_add : K.lookup f_add = some ⟨oc_add, od_add, .func (PySem.W.fnOf "add" "add" (defArgs s_add) (defBody s_add) (defScope s_add) .none kV_add dc_add pm_add an_add cd_add ct_add), sl_add⟩)
    (c_add : PySem.W.codeIn K cd_add "add" = true)
    (k_add : PySem.W.keepIn K (.ref f_add) = true)
    (a_scaled : PySem.W.nsIn K mainGlobals "scaled" = some (some (.ref f_scaled)))
    (l_scaled : K.lookup f_scaled = some ⟨oc_scaled, od_scaled, .func (PySem.W.fnOf "scaled" "scaled" (defArgs s_scaled) (defBody s_scaled) (defScope s_scaled) .none kV_scaled dc_scaled pm_scaled an_scaled cd_scaled ct_scaled), sl_scaled⟩)
    (c_scaled : PySem.W.codeIn K cd_scaled "scaled" = true)
    (k_scaled : PySem.W.keepIn K (.ref f_scaled) = true)
    (a__pivot : PySem.W.nsIn K mainGlobals "_pivot" = some (some (.ref f__pivot)))
    (l__pivot : K.lookup f__pivot = some ⟨oc__pivot, od__pivot, .func (PySem.W.fnOf "_pivot" "_pivot" (defArgs s__pivot) (defBody s__pivot) (defScope s__pivot) .none kV__pivot dc__pivot pm__pivot an__pivot cd__pivot ct__pivot), sl__pivot⟩)
    (c__pivot : PySem.W.codeIn K cd__pivot "_pivot" = true)
    (k__pivot : PySem.W.keepIn K (.ref f__pivot) = true)
    (a_rest : PySem.W.nsIn K mainGlobals "rest" = some (some (.ref f_rest)))
    (l_rest : K.lookup f_rest = some ⟨oc_rest, od_rest, .func (PySem.W.fnOf "rest" "rest" (defArgs s_rest) (defBody s_rest) (defScope s_rest) .none kV_rest dc_rest pm_rest an_rest cd_rest ct_rest), sl_rest⟩)
    (c_rest : PySem.W.codeIn K cd_rest "rest" = true)
    (k_rest : PySem.W.keepIn K (.ref f_rest) = true)
    (a__merged : PySem.W.nsIn K mainGlobals "_merged" = some (some (.ref f__merged)))
    (l__merged : K.lookup f__merged = some ⟨oc__merged, od__merged, .func (PySem.W.fnOf "_merged" "_merged" (defArgs s__merged) (defBody s__merged) (defScope s__merged) .none kV__merged dc__merged pm__merged an__merged cd__merged ct__merged), sl__merged⟩)
    (c__merged : PySem.W.codeIn K cd__merged "_merged" = true)
    (k__merged : PySem.W.keepIn K (.ref f__merged) = true)
    (a__tidied : PySem.W.nsIn K mainGlobals "_tidied" = some (some (.ref f__tidied)))
    (l__tidied : K.lookup f__tidied = some ⟨oc__tidied, od__tidied, .func (PySem.W.fnOf "_tidied" "_tidied" (defArgs s__tidied) (defBody s__tidied) (defScope s__tidied) .none kV__tidied dc__tidied pm__tidied an__tidied cd__tidied ct__tidied), sl__tidied⟩)
    (c__tidied : PySem.W.codeIn K cd__tidied "_tidied" = true)
    (k__tidied : PySem.W.keepIn K (.ref f__tidied) = true)
    (a__with_row : PySem.W.nsIn K mainGlobals "_with_row" = some (some (.ref f__with_row)))
    (l__with_row : K.lookup f__with_row = some ⟨oc__with_row, od__with_row, .func (PySem.W.fnOf "_with_row" "_with_row" (defArgs s__with_row) (defBody s__with_row) (defScope s__with_row) .none kV__with_row dc__with_row pm__with_row an__with_row cd__with_row ct__with_row), sl__with_row⟩)
    (c__with_row : PySem.W.codeIn K cd__with_row "_with_row" = true)
    (k__with_row : PySem.W.keepIn K (.ref f__with_row) = true)
    (a_span : PySem.W.nsIn K mainGlobals "span" = some (some (.ref f_span)))
    (l_span : K.lookup f_span = some ⟨oc_span, od_span, .func (PySem.W.fnOf "span" "span" (defArgs s_span) (defBody s_span) (defScope s_span) .none kV_span dc_span pm_span an_span cd_span ct_span), sl_span⟩)
    (c_span : PySem.W.codeIn K cd_span "span" = true)
    (k_span : PySem.W.keepIn K (.ref f_span) = true)
    (a_holds : PySem.W.nsIn K mainGlobals "holds" = some (some (.ref f_holds)))
    (l_holds : K.lookup f_holds = some ⟨oc_holds, od_holds, .func (PySem.W.fnOf "holds" "holds" (defArgs s_holds) (defBody s_holds) (defScope s_holds) .none kV_holds dc_holds pm_holds an_holds cd_holds ct_holds), sl_holds⟩)
    (c_holds : PySem.W.codeIn K cd_holds "holds" = true)
    (k_holds : PySem.W.keepIn K (.ref f_holds) = true)
    (a__law_inner : PySem.W.nsIn K mainGlobals "_law_inner" = some (some (.ref f__law_inner)))
    (l__law_inner : K.lookup f__law_inner = some ⟨oc__law_inner, od__law_inner, .func (PySem.W.fnOf "_law_inner" "_law_inner" (defArgs s__law_inner) (defBody s__law_inner) (defScope s__law_inner) .none kV__law_inner dc__law_inner pm__law_inner an__law_inner cd__law_inner ct__law_inner), sl__law_inner⟩)
    (c__law_inner : PySem.W.codeIn K cd__law_inner "_law_inner" = true)
    (k__law_inner : PySem.W.keepIn K (.ref f__law_inner) = true)
    (a__law_plain : PySem.W.nsIn K mainGlobals "_law_plain" = some (some (.ref f__law_plain)))
    (l__law_plain : K.lookup f__law_plain = some ⟨oc__law_plain, od__law_plain, .func (PySem.W.fnOf "_law_plain" "_law_plain" (defArgs s__law_plain) (defBody s__law_plain) (defScope s__law_plain) .none kV__law_plain dc__law_plain pm__law_plain an__law_plain cd__law_plain ct__law_plain), sl__law_plain⟩)
    (c__law_plain : PySem.W.codeIn K cd__law_plain "_law_plain" = true)
    (k__law_plain : PySem.W.keepIn K (.ref f__law_plain) = true)
    (a__law_says : PySem.W.nsIn K mainGlobals "_law_says" = some (some (.ref f__law_says)))
    (l__law_says : K.lookup f__law_says = some ⟨oc__law_says, od__law_says, .func (PySem.W.fnOf "_law_says" "_law_says" (defArgs s__law_says) (defBody s__law_says) (defScope s__law_says) .none kV__law_says dc__law_says pm__law_says an__law_says cd__law_says ct__law_says), sl__law_says⟩)
    (c__law_says : PySem.W.codeIn K cd__law_says "_law_says" = true)
    (k__law_says : PySem.W.keepIn K (.ref f__law_says) = true)
    (a__unit_row : PySem.W.nsIn K mainGlobals "_unit_row" = some (some (.ref f__unit_row)))
    (l__unit_row : K.lookup f__unit_row = some ⟨oc__unit_row, od__unit_row, .func (PySem.W.fnOf "_unit_row" "_unit_row" (defArgs s__unit_row) (defBody s__unit_row) (defScope s__unit_row) .none kV__unit_row dc__unit_row pm__unit_row an__unit_row cd__unit_row ct__unit_row), sl__unit_row⟩)
    (c__unit_row : PySem.W.codeIn K cd__unit_row "_unit_row" = true)
    (k__unit_row : PySem.W.keepIn K (.ref f__unit_row) = true)
    (a__with_units : PySem.W.nsIn K mainGlobals "_with_units" = some (some (.ref f__with_units)))
    (l__with_units : K.lookup f__with_units = some ⟨oc__with_units, od__with_units, .func (PySem.W.fnOf "_with_units" "_with_units" (defArgs s__with_units) (defBody s__with_units) (defScope s__with_units) .none kV__with_units dc__with_units pm__with_units an__with_units cd__with_units ct__with_units), sl__with_units⟩)
    (c__with_units : PySem.W.codeIn K cd__with_units "_with_units" = true)
    (k__with_units : PySem.W.keepIn K (.ref f__with_units) = true)
    (a_kernel : PySem.W.nsIn K mainGlobals "kernel" = some (some (.ref f_kernel)))
    (l_kernel : K.lookup f_kernel = some ⟨oc_kernel, od_kernel, .func (PySem.W.fnOf "kernel" "kernel" (defArgs s_kernel) (defBody s_kernel) (defScope s_kernel) .none kV_kernel dc_kernel pm_kernel an_kernel cd_kernel ct_kernel), sl_kernel⟩)
    (c_kernel : PySem.W.codeIn K cd_kernel "kernel" = true)
    (k_kernel : PySem.W.keepIn K (.ref f_kernel) = true)
    (a_dot : PySem.W.nsIn K mainGlobals "dot" = some (some (.ref f_dot)))
    (l_dot : K.lookup f_dot = some ⟨oc_dot, od_dot, .func (PySem.W.fnOf "dot" "dot" (defArgs s_dot) (defBody s_dot) (defScope s_dot) .none kV_dot dc_dot pm_dot an_dot cd_dot ct_dot), sl_dot⟩)
    (c_dot : PySem.W.codeIn K cd_dot "dot" = true)
    (k_dot : PySem.W.keepIn K (.ref f_dot) = true)
    (a_moved : PySem.W.nsIn K mainGlobals "moved" = some (some (.ref f_moved)))
    (l_moved : K.lookup f_moved = some ⟨oc_moved, od_moved, .func (PySem.W.fnOf "moved" "moved" (defArgs s_moved) (defBody s_moved) (defScope s_moved) .none kV_moved dc_moved pm_moved an_moved cd_moved ct_moved), sl_moved⟩)
    (c_moved : PySem.W.codeIn K cd_moved "moved" = true)
    (k_moved : PySem.W.keepIn K (.ref f_moved) = true)
    (a__law_whole : PySem.W.nsIn K mainGlobals "_law_whole" = some (some (.ref f__law_whole)))
    (l__law_whole : K.lookup f__law_whole = some ⟨oc__law_whole, od__law_whole, .func (PySem.W.fnOf "_law_whole" "_law_whole" (defArgs s__law_whole) (defBody s__law_whole) (defScope s__law_whole) .none kV__law_whole dc__law_whole pm__law_whole an__law_whole cd__law_whole ct__law_whole), sl__law_whole⟩)
    (c__law_whole : PySem.W.codeIn K cd__law_whole "_law_whole" = true)
    (k__law_whole : PySem.W.keepIn K (.ref f__law_whole) = true)
    (a__law_same : PySem.W.nsIn K mainGlobals "_law_same" = some (some (.ref f__law_same)))
    (l__law_same : K.lookup f__law_same = some ⟨oc__law_same, od__law_same, .func (PySem.W.fnOf "_law_same" "_law_same" (defArgs s__law_same) (defBody s__law_same) (defScope s__law_same) .none kV__law_same dc__law_same pm__law_same an__law_same cd__law_same ct__law_same), sl__law_same⟩)
    (c__law_same : PySem.W.codeIn K cd__law_same "_law_same" = true)
    (k__law_same : PySem.W.keepIn K (.ref f__law_same) = true)
    (a__law_row : PySem.W.nsIn K mainGlobals "_law_row" = some (some (.ref f__law_row)))
    (l__law_row : K.lookup f__law_row = some ⟨oc__law_row, od__law_row, .func (PySem.W.fnOf "_law_row" "_law_row" (defArgs s__law_row) (defBody s__law_row) (defScope s__law_row) .none kV__law_row dc__law_row pm__law_row an__law_row cd__law_row ct__law_row), sl__law_row⟩)
    (c__law_row : PySem.W.codeIn K cd__law_row "_law_row" = true)
    (k__law_row : PySem.W.keepIn K (.ref f__law_row) = true)
    (a__law_dot : PySem.W.nsIn K mainGlobals "_law_dot" = some (some (.ref f__law_dot)))
    (l__law_dot : K.lookup f__law_dot = some ⟨oc__law_dot, od__law_dot, .func (PySem.W.fnOf "_law_dot" "_law_dot" (defArgs s__law_dot) (defBody s__law_dot) (defScope s__law_dot) .none kV__law_dot dc__law_dot pm__law_dot an__law_dot cd__law_dot ct__law_dot), sl__law_dot⟩)
    (c__law_dot : PySem.W.codeIn K cd__law_dot "_law_dot" = true)
    (k__law_dot : PySem.W.keepIn K (.ref f__law_dot) = true)
    (a__law_times : PySem.W.nsIn K mainGlobals "_law_times" = some (some (.ref f__law_times)))
    (l__law_times : K.lookup f__law_times = some ⟨oc__law_times, od__law_times, .func (PySem.W.fnOf "_law_times" "_law_times" (defArgs s__law_times) (defBody s__law_times) (defScope s__law_times) .none kV__law_times dc__law_times pm__law_times an__law_times cd__law_times ct__law_times), sl__law_times⟩)
    (c__law_times : PySem.W.codeIn K cd__law_times "_law_times" = true)
    (k__law_times : PySem.W.keepIn K (.ref f__law_times) = true)
    (a__law_plain_holds : PySem.W.nsIn K mainGlobals "_law_plain_holds" = some (some (.ref f__law_plain_holds)))
    (l__law_plain_holds : K.lookup f__law_plain_holds = some ⟨oc__law_plain_holds, od__law_plain_holds, .func (PySem.W.fnOf "_law_plain_holds" "_law_plain_holds" (defArgs s__law_plain_holds) (defBody s__law_plain_holds) (defScope s__law_plain_holds) .none kV__law_plain_holds dc__law_plain_holds pm__law_plain_holds an__law_plain_holds cd__law_plain_holds ct__law_plain_holds), sl__law_plain_holds⟩)
    (c__law_plain_holds : PySem.W.codeIn K cd__law_plain_holds "_law_plain_holds" = true)
    (k__law_plain_holds : PySem.W.keepIn K (.ref f__law_plain_holds) = true)
    (a__law_kernel_holds : PySem.W.nsIn K mainGlobals "_law_kernel_holds" = some (some (.ref f__law_kernel_holds)))
    (l__law_kernel_holds : K.lookup f__law_kernel_holds = some ⟨oc__law_kernel_holds, od__law_kernel_holds, .func (PySem.W.fnOf "_law_kernel_holds" "_law_kernel_holds" (defArgs s__law_kernel_holds) (defBody s__law_kernel_holds) (defScope s__law_kernel_holds) .none kV__law_kernel_holds dc__law_kernel_holds pm__law_kernel_holds an__law_kernel_holds cd__law_kernel_holds ct__law_kernel_holds), sl__law_kernel_holds⟩)
    (c__law_kernel_holds : PySem.W.codeIn K cd__law_kernel_holds "_law_kernel_holds" = true)
    (k__law_kernel_holds : PySem.W.keepIn K (.ref f__law_kernel_holds) = true)
    (a_law : PySem.W.nsIn K mainGlobals "law" = some (some (.ref f_law)))
    (l_law : K.lookup f_law = some ⟨oc_law, od_law, .func (PySem.W.fnOf "law" "law" (defArgs s_law) (defBody s_law) (defScope s_law) .none kV_law dc_law pm_law an_law cd_law ct_law), sl_law⟩)
    (c_law : PySem.W.codeIn K cd_law "law" = true)
    (k_law : PySem.W.keepIn K (.ref f_law) = true)
    (z_abs : PySem.W.nsIn K mainGlobals "abs" = some none)
    (z_int : PySem.W.nsIn K mainGlobals "int" = some none)
    (z_bool : PySem.W.nsIn K mainGlobals "bool" = some none)
    (z_str : PySem.W.nsIn K mainGlobals "str" = some none)
    (z_tuple : PySem.W.nsIn K mainGlobals "tuple" = some none)
    (z_list : PySem.W.nsIn K mainGlobals "list" = some none)
    (z_min : PySem.W.nsIn K mainGlobals "min" = some none)
    (z_sum : PySem.W.nsIn K mainGlobals "sum" = some none)
    (z_range : PySem.W.nsIn K mainGlobals "range" = some none)
    (z_isinstance : PySem.W.nsIn K mainGlobals "isinstance" = some none)
    (z_len : PySem.W.nsIn K mainGlobals "len" = some none)
    (z_all : PySem.W.nsIn K mainGlobals "all" = some none)
    (z_any : PySem.W.nsIn K mainGlobals "any" = some none)
    (z_zip : PySem.W.nsIn K mainGlobals "zip" = some none)
    (z_enumerate : PySem.W.nsIn K mainGlobals "enumerate" = some none)
    (z_reversed : PySem.W.nsIn K mainGlobals "reversed" = some none) :
    ∃ fd : FuncData, (∀ (s : Shared) (v : Value), BindsTo s fd ⟨[v], []⟩ [("script", v)]) ∧ ∀ base : Heap, K.In base → base.Ns mainGlobals mg → FnOk l.prog w K mg base CX0 9 fa fd ["script"] (spLaw K) := by
  have e := hfa.symm.trans (PySem.W.mg_of X G a_law)
  cases e
  have B : Bl mg := { abs := PySem.W.mg_none_of X G z_abs, int := PySem.W.mg_none_of X G z_int, bool := PySem.W.mg_none_of X G z_bool, str := PySem.W.mg_none_of X G z_str, tuple := PySem.W.mg_none_of X G z_tuple, list := PySem.W.mg_none_of X G z_list, min := PySem.W.mg_none_of X G z_min, sum := PySem.W.mg_none_of X G z_sum, range := PySem.W.mg_none_of X G z_range, isinstance := PySem.W.mg_none_of X G z_isinstance, len := PySem.W.mg_none_of X G z_len, all := PySem.W.mg_none_of X G z_all, any := PySem.W.mg_none_of X G z_any, zip := PySem.W.mg_none_of X G z_zip, enumerate := PySem.W.mg_none_of X G z_enumerate, reversed := PySem.W.mg_none_of X G z_reversed }
  have d__law_take : Dn K mg "_law_take" s__law_take ["state", "m"] := dn_mk X G a__law_take l__law_take c__law_take k__law_take fun _ _ _ _ _ _ us hl => match us, hl with | [_, _], _ => rfl
  have d__law_state : Dn K mg "_law_state" s__law_state ["script"] := dn_mk X G a__law_state l__law_state c__law_state k__law_state fun _ _ _ _ _ _ us hl => match us, hl with | [_], _ => rfl
  have d_is_integer : Dn K mg "is_integer" s_is_integer ["value"] := dn_mk X G a_is_integer l_is_integer c_is_integer k_is_integer fun _ _ _ _ _ _ us hl => match us, hl with | [_], _ => rfl
  have d_is_row : Dn K mg "is_row" s_is_row ["value", "n"] := dn_mk X G a_is_row l_is_row c_is_row k_is_row fun _ _ _ _ _ _ us hl => match us, hl with | [_, _], _ => rfl
  have d_combination : Dn K mg "combination" s_combination ["a", "b"] := dn_mk X G a_combination l_combination c_combination k_combination fun _ _ _ _ _ _ us hl => match us, hl with | [_, _], _ => rfl
  have d_add : Dn K mg "add" s_add ["v", "w"] := dn_mk X G a_add l_add c_add k_add fun _ _ _ _ _ _ us hl => match us, hl with | [_, _], _ => rfl
  have d_scaled : Dn K mg "scaled" s_scaled ["v", "c"] := dn_mk X G a_scaled l_scaled c_scaled k_scaled fun _ _ _ _ _ _ us hl => match us, hl with | [_, _], _ => rfl
  have d__pivot : Dn K mg "_pivot" s__pivot ["row"] := dn_mk X G a__pivot l__pivot c__pivot k__pivot fun _ _ _ _ _ _ us hl => match us, hl with | [_], _ => rfl
  have d_rest : Dn K mg "rest" s_rest ["space", "x"] := dn_mk X G a_rest l_rest c_rest k_rest fun _ _ _ _ _ _ us hl => match us, hl with | [_, _], _ => rfl
  have d__merged : Dn K mg "_merged" s__merged ["one", "two", "at"] := dn_mk X G a__merged l__merged c__merged k__merged fun _ _ _ _ _ _ us hl => match us, hl with | [_, _, _], _ => rfl
  have d__tidied : Dn K mg "_tidied" s__tidied ["rows"] := dn_mk X G a__tidied l__tidied c__tidied k__tidied fun _ _ _ _ _ _ us hl => match us, hl with | [_], _ => rfl
  have d__with_row : Dn K mg "_with_row" s__with_row ["space", "row"] := dn_mk X G a__with_row l__with_row c__with_row k__with_row fun _ _ _ _ _ _ us hl => match us, hl with | [_, _], _ => rfl
  have d_span : Dn K mg "span" s_span ["rows", "width"] := dn_mk X G a_span l_span c_span k_span fun _ _ _ _ _ _ us hl => match us, hl with | [_, _], _ => rfl
  have d_holds : Dn K mg "holds" s_holds ["space", "x"] := dn_mk X G a_holds l_holds c_holds k_holds fun _ _ _ _ _ _ us hl => match us, hl with | [_, _], _ => rfl
  have d__law_inner : Dn K mg "_law_inner" s__law_inner ["value"] := dn_mk X G a__law_inner l__law_inner c__law_inner k__law_inner fun _ _ _ _ _ _ us hl => match us, hl with | [_], _ => rfl
  have d__law_plain : Dn K mg "_law_plain" s__law_plain ["value"] := dn_mk X G a__law_plain l__law_plain c__law_plain k__law_plain fun _ _ _ _ _ _ us hl => match us, hl with | [_], _ => rfl
  have d__law_says : Dn K mg "_law_says" s__law_says ["value", "due"] := dn_mk X G a__law_says l__law_says c__law_says k__law_says fun _ _ _ _ _ _ us hl => match us, hl with | [_, _], _ => rfl
  have d__unit_row : Dn K mg "_unit_row" s__unit_row ["at", "n"] := dn_mk X G a__unit_row l__unit_row c__unit_row k__unit_row fun _ _ _ _ _ _ us hl => match us, hl with | [_, _], _ => rfl
  have d__with_units : Dn K mg "_with_units" s__with_units ["rows", "width"] := dn_mk X G a__with_units l__with_units c__with_units k__with_units fun _ _ _ _ _ _ us hl => match us, hl with | [_, _], _ => rfl
  have d_kernel : Dn K mg "kernel" s_kernel ["rows", "width"] := dn_mk X G a_kernel l_kernel c_kernel k_kernel fun _ _ _ _ _ _ us hl => match us, hl with | [_, _], _ => rfl
  have d_dot : Dn K mg "dot" s_dot ["v", "w"] := dn_mk X G a_dot l_dot c_dot k_dot fun _ _ _ _ _ _ us hl => match us, hl with | [_, _], _ => rfl
  have d_moved : Dn K mg "moved" s_moved ["x", "rows", "width"] := dn_mk X G a_moved l_moved c_moved k_moved fun _ _ _ _ _ _ us hl => match us, hl with | [_, _, _], _ => rfl
  have d__law_whole : Dn K mg "_law_whole" s__law_whole ["value", "due"] := dn_mk X G a__law_whole l__law_whole c__law_whole k__law_whole fun _ _ _ _ _ _ us hl => match us, hl with | [_, _], _ => rfl
  have d__law_same : Dn K mg "_law_same" s__law_same ["one", "two"] := dn_mk X G a__law_same l__law_same c__law_same k__law_same fun _ _ _ _ _ _ us hl => match us, hl with | [_, _], _ => rfl
  have d__law_row : Dn K mg "_law_row" s__law_row ["state", "n"] := dn_mk X G a__law_row l__law_row c__law_row k__law_row fun _ _ _ _ _ _ us hl => match us, hl with | [_, _], _ => rfl
  have d__law_dot : Dn K mg "_law_dot" s__law_dot ["v", "w"] := dn_mk X G a__law_dot l__law_dot c__law_dot k__law_dot fun _ _ _ _ _ _ us hl => match us, hl with | [_, _], _ => rfl
  have d__law_times : Dn K mg "_law_times" s__law_times ["v", "rows", "width"] := dn_mk X G a__law_times l__law_times c__law_times k__law_times fun _ _ _ _ _ _ us hl => match us, hl with | [_, _, _], _ => rfl
  have d__law_plain_holds : Dn K mg "_law_plain_holds" s__law_plain_holds ["state"] := dn_mk X G a__law_plain_holds l__law_plain_holds c__law_plain_holds k__law_plain_holds fun _ _ _ _ _ _ us hl => match us, hl with | [_], _ => rfl
  have d__law_kernel_holds : Dn K mg "_law_kernel_holds" s__law_kernel_holds ["state"] := dn_mk X G a__law_kernel_holds l__law_kernel_holds c__law_kernel_holds k__law_kernel_holds fun _ _ _ _ _ _ us hl => match us, hl with | [_], _ => rfl
  have d_law : Dn K mg "law" s_law ["script"] := dn_mk X G a_law l_law c_law k_law fun _ _ _ _ _ _ us hl => match us, hl with | [_], _ => rfl
  refine ⟨PySem.W.fnOf "law" "law" (defArgs s_law) (defBody s_law) (defScope s_law) .none kV_law dc_law pm_law an_law cd_law ct_law, fun s v => .of_eq rfl, fun base _ _ => ?_⟩
  have r_take := cal_take (P := l.prog) (w := w) (base := base) d__law_take B
  have r_state := cal_state (P := l.prog) (w := w) (base := base) d__law_state B
  have r_is_integer := cal_is_integer (P := l.prog) (w := w) (base := base) d_is_integer B
  have r_row := cal_row (P := l.prog) (w := w) (base := base) d_is_row B r_is_integer
  have r_comb := cal_comb (P := l.prog) (w := w) (base := base) d_combination B
  have r_add := cal_add (P := l.prog) (w := w) (base := base) d_add B
  have r_sc := cal_sc (P := l.prog) (w := w) (base := base) d_scaled B
  have r_piv := cal_piv (P := l.prog) (w := w) (base := base) d__pivot B
  have r_rest := cal_rest (P := l.prog) (w := w) (base := base) d_rest B r_piv r_add r_sc
  have r_me := cal_me (P := l.prog) (w := w) (base := base) d__merged B r_comb r_add r_sc
  have r_ti := cal_ti (P := l.prog) (w := w) (base := base) d__tidied B r_piv r_sc r_rest
  have r_wr := cal_wr (P := l.prog) (w := w) (base := base) d__with_row B r_piv r_rest r_me r_ti
  have r_span := cal_span (P := l.prog) (w := w) (base := base) d_span B r_wr
  have r_ho := cal_ho (P := l.prog) (w := w) (base := base) d_holds B r_rest
  have r_inn := cal_inn (P := l.prog) (w := w) (base := base) d__law_inner B
  have r_innT := cal_innT (P := l.prog) (w := w) (base := base) d__law_inner B r_inn
  have r_innC := cal_innC (P := l.prog) (w := w) (base := base) d__law_inner B r_inn r_innT
  have r_plC := cal_plC (P := l.prog) (w := w) (base := base) d__law_plain B r_innC
  have r_says := cal_says (P := l.prog) (w := w) (base := base) d__law_says B
  have r_ur := cal_ur (P := l.prog) (w := w) (base := base) d__unit_row B
  have r_wu := cal_wu (P := l.prog) (w := w) (base := base) d__with_units B r_ur r_span
  have r_ker := cal_ker (P := l.prog) (w := w) (base := base) d_kernel B r_wu
  have r_dot := cal_dot (P := l.prog) (w := w) (base := base) d_dot B
  have r_mv := cal_mv (P := l.prog) (w := w) (base := base) d_moved B r_add r_sc
  have r_who := cal_who (P := l.prog) (w := w) (base := base) d__law_whole B
  have r_saI := cal_saI (P := l.prog) (w := w) (base := base) d__law_same B
  have r_saT := cal_saT (P := l.prog) (w := w) (base := base) d__law_same B r_saI
  have r_lr := cal_lr (P := l.prog) (w := w) (base := base) d__law_row B r_take
  have r_ld := cal_ld (P := l.prog) (w := w) (base := base) d__law_dot B
  have r_lt := cal_lt (P := l.prog) (w := w) (base := base) d__law_times B
  have r_ph := cal_ph (P := l.prog) (w := w) (base := base) d__law_plain_holds B r_take r_lr r_sc r_plC r_saT r_add r_lt r_mv r_ld r_dot r_who r_row r_says
  have r_kh := cal_kh (P := l.prog) (w := w) (base := base) d__law_kernel_holds B r_take r_ker r_plC r_span r_lr r_lt r_ho r_says
  exact ok_law (P := l.prog) (w := w) (base := base) (fun_mk (st := s_law) l_law c_law k_law) B r_state r_kh r_ph
theorem walk {l : PySem.W.OpenLaw} {q : Program} {loose : List Str} {XP : (Str → Option Value) → Heap → Prop} {YP : World → Heap → Prop} {d : DefRec} {K : Params → PySem.W.Frag} (hn : l.most = some 63) (hdf : d.params.defaults = []) (hY : ∀ (w : World) (h : Heap), YP w h → (K w.params).In h)
    (F : ∀ (w : World) (mg : Str → Option Value) (fa : Addr) (h : Heap), (K w.params).In h → h.Ns mainGlobals mg → mg d.name = some (.ref fa) → ∃ fd : FuncData, (∀ (s : Shared) (u : Value), BindsTo s fd ⟨[u], []⟩ [("script", u)]) ∧ ∀ base : Heap, (K w.params).In base → base.Ns mainGlobals mg → FnOk l.prog w (K w.params) mg base CX0 9 fa fd ["script"] (spLaw (K w.params))) :
    PySem.W.WalkO q loose XP YP l.row.toRowW d [] (fun f vs => PySem.call f vs) :=
  L2.walk_of (n := 63) (k := 9) (x := "script") (CX := fun _ => CX0) (sp := fun w => spLaw (K w.params)) hn (by decide) hdf ⟨rfl, by decide, by decide⟩ hY F (fun _ _ a ns hl _ hS => ⟨a, ns, rfl, hS, hl, fun _ => rfl⟩) fun _ _ _ _ _ z => z

end L02
open PySem PySem.W PyProof.Rows
set_option maxRecDepth 100000 in
set_option maxHeartbeats 0 in
theorem PySem.Challenge.cw_classledger_k14_rows_and_kernels_holds : PySem.Challenge.rw_classledger_k14_rows_and_kernels.Holds := by
  w_on; o_law; k_head; (case hw => w_witness2)
  k_fill
  refine L02.walk (l := PySem.Challenge.rw_classledger_k14_rows_and_kernels) rfl rfl (fun w h Y => PySem.W.kIn_of Y) ?F
  case F =>
    intro w mg fa h KX G hmg
    refine' L02.all_mk KX G hmg ?a__law_take ?l__law_take ?c__law_take ?k__law_take ?a__law_state ?l__law_state ?c__law_state ?k__law_state ?a_is_integer ?l_is_integer ?c_is_integer ?k_is_integer ?a_is_row ?l_is_row ?c_is_row ?k_is_row ?a_combination ?l_combination ?c_combination ?k_combination ?a_add ?l_add ?c_add ?k_add ?a_scaled ?l_scaled ?c_scaled ?k_scaled ?a__pivot ?l__pivot ?c__pivot ?k__pivot ?a_rest ?l_rest ?c_rest ?k_rest ?a__merged ?l__merged ?c__merged ?k__merged ?a__tidied ?l__tidied ?c__tidied ?k__tidied ?a__with_row ?l__with_row ?c__with_row ?k__with_row ?a_span ?l_span ?c_span ?k_span ?a_holds ?l_holds ?c_holds ?k_holds ?a__law_inner ?l__law_inner ?c__law_inner ?k__law_inner ?a__law_plain ?l__law_plain ?c__law_plain ?k__law_plain ?a__law_says ?l__law_says ?c__law_says ?k__law_says ?a__unit_row ?l__unit_row ?c__unit_row ?k__unit_row ?a__with_units ?l__with_units ?c__with_units ?k__with_units ?a_kernel ?l_kernel ?c_kernel ?k_kernel ?a_dot ?l_dot ?c_dot ?k_dot ?a_moved ?l_moved ?c_moved ?k_moved ?a__law_whole ?l__law_whole ?c__law_whole ?k__law_whole ?a__law_same ?l__law_same ?c__law_same ?k__law_same ?a__law_row ?l__law_row ?c__law_row ?k__law_row ?a__law_dot ?l__law_dot ?c__law_dot ?k__law_dot ?a__law_times ?l__law_times ?c__law_times ?k__law_times ?a__law_plain_holds ?l__law_plain_holds ?c__law_plain_holds ?k__law_plain_holds ?a__law_kernel_holds ?l__law_kernel_holds ?c__law_kernel_holds ?k__law_kernel_holds ?a_law ?l_law ?c_law ?k_law ?z_abs ?z_int ?z_bool ?z_str ?z_tuple ?z_list ?z_min ?z_sum ?z_range ?z_isinstance ?z_len ?z_all ?z_any ?z_zip ?z_enumerate ?z_reversed
    (case a__law_take => k_is); (case l__law_take => k_is); (case c__law_take => k_is); (case k__law_take => k_is)
    (case a__law_state => k_is); (case l__law_state => k_is); (case c__law_state => k_is); (case k__law_state => k_is)
    (case a_is_integer => k_is); (case l_is_integer => k_is); (case c_is_integer => k_is); (case k_is_integer => k_is)
    (case a_is_row => k_is); (case l_is_row => k_is); (case c_is_row => k_is); (case k_is_row => k_is)
    (case a_combination => k_is); (case l_combination => k_is); (case c_combination => k_is); (case k_combination => k_is)
    (case a_add => k_is); (case l_add => k_is); (case c_add => k_is); (case k_add => k_is)
    (case a_scaled => k_is); (case l_scaled => k_is); (case c_scaled => k_is); (case k_scaled => k_is)
    (case a__pivot => k_is); (case l__pivot => k_is); (case c__pivot => k_is); (case k__pivot => k_is)
    (case a_rest => k_is); (case l_rest => k_is); (case c_rest => k_is); (case k_rest => k_is)
    (case a__merged => k_is); (case l__merged => k_is); (case c__merged => k_is); (case k__merged => k_is)
    (case a__tidied => k_is); (case l__tidied => k_is); (case c__tidied => k_is); (case k__tidied => k_is)
    (case a__with_row => k_is); (case l__with_row => k_is); (case c__with_row => k_is); (case k__with_row => k_is)
    (case a_span => k_is); (case l_span => k_is); (case c_span => k_is); (case k_span => k_is)
    (case a_holds => k_is); (case l_holds => k_is); (case c_holds => k_is); (case k_holds => k_is)
    (case a__law_inner => k_is); (case l__law_inner => k_is); (case c__law_inner => k_is); (case k__law_inner => k_is)
    (case a__law_plain => k_is); (case l__law_plain => k_is); (case c__law_plain => k_is); (case k__law_plain => k_is)
    (case a__law_says => k_is); (case l__law_says => k_is); (case c__law_says => k_is); (case k__law_says => k_is)
    (case a__unit_row => k_is); (case l__unit_row => k_is); (case c__unit_row => k_is); (case k__unit_row => k_is)
    (case a__with_units => k_is); (case l__with_units => k_is); (case c__with_units => k_is); (case k__with_units => k_is)
    (case a_kernel => k_is); (case l_kernel => k_is); (case c_kernel => k_is); (case k_kernel => k_is)
    (case a_dot => k_is); (case l_dot => k_is); (case c_dot => k_is); (case k_dot => k_is)
    (case a_moved => k_is); (case l_moved => k_is); (case c_moved => k_is); (case k_moved => k_is)
    (case a__law_whole => k_is); (case l__law_whole => k_is); (case c__law_whole => k_is); (case k__law_whole => k_is)
    (case a__law_same => k_is); (case l__law_same => k_is); (case c__law_same => k_is); (case k__law_same => k_is)
    (case a__law_row => k_is); (case l__law_row => k_is); (case c__law_row => k_is); (case k__law_row => k_is)
    (case a__law_dot => k_is); (case l__law_dot => k_is); (case c__law_dot => k_is); (case k__law_dot => k_is)
    (case a__law_times => k_is); (case l__law_times => k_is); (case c__law_times => k_is); (case k__law_times => k_is)
    (case a__law_plain_holds => k_is); (case l__law_plain_holds => k_is); (case c__law_plain_holds => k_is); (case k__law_plain_holds => k_is)
    (case a__law_kernel_holds => k_is); (case l__law_kernel_holds => k_is); (case c__law_kernel_holds => k_is); (case k__law_kernel_holds => k_is)
    (case a_law => k_is); (case l_law => k_is); (case c_law => k_is); (case k_law => k_is)
    (case z_abs => k_is); (case z_int => k_is); (case z_bool => k_is); (case z_str => k_is)
    (case z_tuple => k_is); (case z_list => k_is); (case z_min => k_is); (case z_sum => k_is)
    (case z_range => k_is); (case z_isinstance => k_is); (case z_len => k_is); (case z_all => k_is)
    (case z_any => k_is); (case z_zip => k_is); (case z_enumerate => k_is); (case z_reversed => k_is)
