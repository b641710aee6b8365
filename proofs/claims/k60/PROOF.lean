import PyProof.Rows.All
import Wide.All
import OpenK.AllK
import Wide.FinOn
import HandS.ForMost
import HandS.Exc
import HandS.ExcOwn
import HandS.ExcInit
import HandS.TryOnly
import HandS.TryMany
import HandS.WordsExc
import HandS.Gcd
import HandS.Wide
import HandS.WideMore
import HandS.WideBits
import HandS.IsInst
import HandS.Style
import HandS.Flow
import HandS.SortRule
import HandS.SortInts
import HandS.Conv
import HandS.ExcField
import KE.SortData
import HandS.More
import KE.BitLaws
import KE.GoesEnum
import KE.GoesMore
import PyProof.WalksMore
import HandS.TupAny
import HandS.Zip
import HandS.Rev
import HandS.TupMul
import HandS.Deep
import KE.DataMinMax
import KE.IntBitsLaws
import PyProof.SliceList
import KE.GoesZip
import KE.GoesNew
import HandS.SetFor
import HandS.Strs
import PySem.Challenge.RW_classledger_k60_series_added_and_multipl
set_option Elab.async false
set_option linter.all false
set_option maxRecDepth 100000
set_option maxHeartbeats 4000000
namespace CB
open PySem PySem.Spec PyProof.Rows L2
/-! ### operators of any size -/
section
variable {X : Cx}
theorem op_mulI : OpR X (binaryOp .Mult) (rI IntMulOk fun i j => .int (i * j)) := opI fun _ _ _ _ _ _ _ hc q => mul_int q hc
theorem iop_mulI : OpR X (inplaceOp .Mult) (rI IntMulOk fun i j => .int (i * j)) := opI fun _ _ _ _ _ _ _ hc q => imul_int q hc
/-- math.isqrt of an int below 2 ^ 13000 -/
def rIsqrt : List V → Hp → VK → Prop := fun vs H Q => ∃ a : Int, vs = [.int a] ∧ 0 ≤ a ∧ a < 2 ^ 13000 ∧ Q (.int ((Float64.isqrt a.toNat : Nat) : Int)) H
theorem log_lt {n k : Nat} (h : n < 2 ^ (k + 1)) : n.log2 ≤ k := PySem.W.mg_log h
theorem cr_isqrt : CallR X (.builtin "math.isqrt") rIsqrt := by
  intro pins s σ H vs us Q I r h
  obtain ⟨a, rfl, h0, h1, q⟩ := h
  obtain ⟨u, rfl, ru⟩ := vals1 r
  obtain ⟨t, rfl⟩ := ru
  have hl : a.toNat.log2 ≤ 12999 := log_lt (by
    have e : ((2 : Int) ^ 13000) = ((2 ^ 13000 : Nat) : Int) := by rw [Int.natCast_pow]; rfl
    rw [e] at h1
    show a.toNat < 2 ^ 13000
    omega)
  exact call_function_meets PySem.W.MGF.kind_isqrt PySem.W.MGF.plain_isqrt PySem.W.MGF.entry_isqrt (PySem.W.MGF.args_isqrt _) (PySem.W.mg_run_isqrt a t (by omega) (by omega) (by omega)).meets
    ⟨.int _, H, I.tok _, ⟨_, rfl⟩, q⟩
theorem isqrt_spec (n : Nat) : Float64.isqrt n * Float64.isqrt n ≤ n ∧ n < (Float64.isqrt n + 1) * (Float64.isqrt n + 1) := PySem.Float64.isqrt_spec n
/-! ### a < b < c < d -/
def tChain3 (r r' r'' : R2) (ta tb tc td : TE) : TE := fun σ H Q => ta σ H fun x H1 => tb σ H1 fun y H2 => r x y H2 fun z H3 => ∃ k, z = .bl k ∧
  (if k = true then tc σ H3 fun y' H4 => r' y y' H4 fun z' H5 => ∃ k', z' = .bl k' ∧ (if k' = true then td σ H5 fun w' H6 => r'' y' w' H6 Q else Q (.bl false) H5) else Q (.bl false) H3)
variable {a b c d : Expr} {ta tb tc td : TE} {pos : Pos}
theorem pt_chain3 {o1 o2 o3 : CmpOp} {r r' r'' : R2} (ho : OpR X (compareOp o1) r) (ho' : OpR X (compareOp o2) r') (ho'' : OpR X (compareOp o3) r'') (ha : PE X a ta) (hb : PE X b tb) (hc : PE X c tc) (hd : PE X d td)
    (hm : lastMarks [o1, o2, o3] [b, c, d] = false := by with_unfolding_all rfl) : PT X (.Compare a [o1, o2, o3] [b, c, d] pos) (tTest (tChain3 r r' r'' ta tb tc td)) := by
  refine ⟨fun pins s σ H Q I h => ?_⟩
  refine isTrue_chain (thn (ha.run pins s σ H _ I h) fun v s1 ⟨x, H1, I1, r1, q1⟩ => test_link (thn (hb.run pins s1 σ H1 _ I1 q1) fun u s2 ⟨y, H2, I2, r2, q2⟩ =>
    thn (ho pins s2 σ H2 x y v u _ I2 r1 r2 q2) fun d1 s3 ⟨z, H3, I3, r3, k, e, q3⟩ => ?_)) hm
  subst e
  cases r3
  refine wpAny_truthy_bool ?_
  cases k with
  | false =>
    obtain ⟨k', e', q'⟩ := q3
    cases e'
    exact ite_ff ⟨H3, I3, q'⟩
  | true =>
    refine ite_tt (test_link (thn (hc.run pins s3 σ H3 _ I3 q3) fun u' s4 ⟨y', H4, I4, r4, q4⟩ => thn (ho' pins s4 σ H4 y y' u u' _ I4 r2 r4 q4) fun d2 s5 ⟨z2, H5, I5, r5, k2, e2, q5⟩ => ?_))
    subst e2
    cases r5
    refine wpAny_truthy_bool ?_
    cases k2 with
    | false =>
      obtain ⟨k', e', q'⟩ := q5
      cases e'
      exact ite_ff ⟨H5, I5, q'⟩
    | true =>
      refine ite_tt (test_last (thn (hd.run pins s5 σ H5 _ I5 q5) fun w' s6 ⟨z3, H6, I6, r6, q6⟩ => thn (ho'' pins s6 σ H6 y' z3 u' w' _ I6 r4 r6 q6) fun d3 s7 ⟨z4, H7, I7, r7, k4, e4, q7⟩ => ?_))
      subst e4
      cases r7
      exact wpAny_truthy_bool ⟨H7, I7, q7⟩
end
/-! ### a def that a caller calls by its name -/
structure Cal (P : Program) (w : World) (K : PySem.W.Frag) (mg : Str → Option Value) (base : Heap) (x : Str) (k : Nat) (ps : List Str) (sp : Sp) : Prop where
  ok : ∃ f fd, FnOk P w K mg base CX0 k f fd ps sp ∧ mg x = some (.ref f) ∧ PySem.W.keepIn K (.ref f) = true ∧ Binds K fd ps []
section
variable {X : Cx} {k : Nat} {ps : List Str} {sp : Sp} {x : Str} {p pos : Pos} {e : Expr} {es : List Expr} {t : TA}
theorem pe_cal (C : Cal X.prog X.w X.K X.mg X.base x k ps sp) (hr : Room k X.A) (hg : Gl X x) (ha : PA X (e :: es) t) (hdb : (x == ("__debug__" : Str)) = false := by decide)
    (he : starEach (e :: es) X.env = (false, eval e X.env) :: starEach es X.env := by rfl) (hpl : (backTo pos (starEach es X.env)).any (·.1) = false := by rfl) : PE X (.Call (.Name x p) (e :: es) [] pos) (tCall sp [] E0 t) := by
  obtain ⟨f, fd, F, hm, hk, hb⟩ := C.ok
  exact pe_call F hr hg hm hk hb .nil pass0 ha hdb he hpl
end
/-! ### readings, unfolded -/
section
variable {σ : L2.St} {H : Hp} {Q : VK} {QT : Bool → Hp → Prop} {QA : List V → Hp → Prop} {D : Ends} {i j : Nat} {v x y : V} {ta tb tc td : TE} {tA tB' : TT} {t u : TS} {tr : TA} {K : PySem.W.Frag}
theorem rd_var : tVar i σ H Q = ∃ v, σ[i]? = some (some v) ∧ Q v H := rfl
theorem rd_C : tC v σ H Q = Q v H := rfl
theorem rd_op {r : R2} : tOp r ta tb σ H Q = ta σ H fun x H1 => tb σ H1 fun y H2 => r x y H2 Q := rfl
theorem rd_un {r : V → Hp → VK → Prop} : tUn r ta σ H Q = ta σ H fun x H1 => r x H1 Q := rfl
theorem rd_I {C : Int → Int → Prop} {g : Int → Int → V} : rI C g x y H Q = ∃ i j, x = .int i ∧ y = .int j ∧ C i j ∧ Q (g i j) H := rfl
theorem rd_I0 {g : Int → Int → V} : rI0 g x y H Q = ∃ i j, x = .int i ∧ y = .int j ∧ Q (g i j) H := rfl
theorem rd_U {g : Int → V} : rU g x H Q = ∃ i, x = .int i ∧ Q (g i) H := rfl
theorem rd_Eq : rEq x y H Q = (scal x y = true ∧ Q (.bl (decide (x = y))) H) := rfl
theorem rd_Ne : rNe x y H Q = (scal x y = true ∧ Q (.bl (!decide (x = y))) H) := rfl
theorem rd_test : tTest ta σ H QT = ta σ H fun x H' => ∃ k, x = .bl k ∧ QT k H' := rfl
theorem rd_B : L2.tB ta σ H QT = ta σ H fun x H' => ∃ k, x = .bl k ∧ QT k H' := rfl
theorem rd_and {s t : TT} : tAnd s t σ H QT = s σ H fun c H1 => if c = true then t σ H1 QT else QT false H1 := rfl
theorem rd_or {s t : TT} : tOr s t σ H QT = s σ H fun c H1 => if c = true then QT true H1 else t σ H1 QT := rfl
theorem rd_not {s : TT} : tNot s σ H QT = s σ H fun c H1 => QT (!c) H1 := rfl
theorem rd_andV : tAndV ta tb σ H Q = ta σ H fun x H1 => ∃ c, x = .bl c ∧ if c = true then tb σ H1 Q else Q (.bl false) H1 := rfl
theorem rd_orV : tOrV ta tb σ H Q = ta σ H fun x H1 => ∃ c, x = .bl c ∧ if c = true then Q (.bl true) H1 else tb σ H1 Q := rfl
theorem rd_notV : tNotV ta σ H Q = ta σ H fun x H1 => ∃ c, x = .bl c ∧ Q (.bl (!c)) H1 := rfl
theorem rd_if {c : TT} : tIf c ta tb σ H Q = c σ H fun b H1 => if b = true then ta σ H1 Q else tb σ H1 Q := rfl
theorem rd_chain {r r' : R2} : tChain r r' ta tb tc σ H Q = ta σ H fun x H1 => tb σ H1 fun y H2 => r x y H2 fun z H3 => ∃ k, z = .bl k ∧ (if k = true then tc σ H3 fun w' H4 => r' y w' H4 Q else Q (.bl false) H3) := rfl
theorem rd_chain3 {r r' r'' : R2} : tChain3 r r' r'' ta tb tc td σ H Q = ta σ H fun x H1 => tb σ H1 fun y H2 => r x y H2 fun z H3 => ∃ k, z = .bl k ∧
  (if k = true then tc σ H3 fun y' H4 => r' y y' H4 fun z' H5 => ∃ k', z' = .bl k' ∧ (if k' = true then td σ H5 fun w' H6 => r'' y' w' H6 Q else Q (.bl false) H5) else Q (.bl false) H3) := rfl
theorem rd_next : tNext D σ H = D.nx σ H := rfl
theorem rd_seq : tSeq t u D σ H = t { D with nx := u D } σ H := rfl
theorem rd_drop : tDrop ta D σ H = ta σ H fun _ H1 => D.nx σ H1 := rfl
theorem rd_ret : tRet ta D σ H = ta σ H D.rt := rfl
theorem rd_retN : tRetN D σ H = D.rt .non H := rfl
theorem rd_break : tBreak D σ H = D.bk σ H := rfl
theorem rd_cont : tCont D σ H = D.ct σ H := rfl
theorem rd_ifS {c : TT} : tIfS c t u D σ H = c σ H fun b H1 => if b = true then t D σ H1 else u D σ H1 := rfl
theorem rd_asg {g : TG} : tAsg ta g D σ H = ta σ H fun x H1 => g x σ H1 D.nx := rfl
theorem rd_name {QS : L2.St → Hp → Prop} : gName i v σ H QS = QS (σ.set i (some v)) H := rfl
theorem rd_gsub {to ti : TE} {s : TSet} {QS : L2.St → Hp → Prop} : gSub to ti s v σ H QS = to σ H fun o H1 => ti σ H1 fun i H2 => s o i v H2 fun H3 => QS σ H3 := rfl
theorem rd_gtup {n : Nat} {g : TGs} {QS : L2.St → Hp → Prop} : gTup K n g v σ H QS = ∃ a xs, v = .ref a ∧ SqT K H a xs ∧ xs.length = n ∧ g xs σ H QS := rfl
theorem rd_gcons {g : TG} {gs : TGs} {vs : List V} {QS : L2.St → Hp → Prop} : gCons g gs vs σ H QS = ∃ v r, vs = v :: r ∧ g v σ H fun σ' H' => gs r σ' H' QS := rfl
theorem rd_gnil {vs : List V} {QS : L2.St → Hp → Prop} : gNil vs σ H QS = (vs = [] ∧ QS σ H) := rfl
theorem rd_par : tPar i j tr D σ H = tr σ H fun vs H1 => ∃ v w, vs = [v, w] ∧ D.nx ((σ.set i (some v)).set j (some w)) H1 := rfl
theorem rd_aug {te : TE} {ti : TIp} : tAug i te ti D σ H = ∃ x, σ[i]? = some (some x) ∧ te σ H fun y H1 => ti x y H1 fun z H2 => D.nx (σ.set i (some z)) H2 := rfl
theorem rd_ipI {f : Int → Int → Int} : ipI f x y H Q = ∃ i j, x = .int i ∧ y = .int j ∧ Q (.int (f i j)) H := rfl
theorem rd_nil : tNil σ H QA = QA [] H := rfl
theorem rd_cons : tCons ta tr σ H QA = ta σ H fun x H1 => tr σ H1 fun xs H2 => QA (x :: xs) H2 := rfl
theorem rd_tup : tTup tr σ H Q = tr σ H fun xs H1 => xs.length ≤ sizeLine ∧ ∀ p, H1 p = none → Q (.ref p) (upd H1 p (.tup xs)) := rfl
theorem rd_lst : tLst tr σ H Q = tr σ H fun xs H1 => xs.length ≤ sizeLine ∧ ∀ p, H1 p = none → Q (.ref p) (upd H1 p (.lst xs)) := rfl
theorem rd_CB {r : List V → Hp → VK → Prop} : tCB r tr σ H Q = tr σ H fun vs H1 => r vs H1 Q := rfl
theorem rd_call {sp : Sp} {dvs : List V} {E : XK} : tCall sp dvs E tr σ H Q = tr σ H fun vs H1 => sp (vs ++ dvs) H1 Q E := rfl
theorem rd_callS {sp : Sp} {E : L2.St → XK} : tCallS sp E tr σ H Q = tr σ H fun vs H1 => sp vs H1 Q (E σ) := rfl
theorem rd_ixL : rIxL K x y H Q = ∃ p xs i v, x = .ref p ∧ y = .int i ∧ SqL K H p xs ∧ atI xs i = some v ∧ Q v H := rfl
theorem rd_ixT : rIxT K x y H Q = ∃ p xs i v, x = .ref p ∧ y = .int i ∧ SqT K H p xs ∧ atI xs i = some v ∧ Q v H := rfl
theorem rd_isqrt {vs : List V} : rIsqrt vs H Q = ∃ a : Int, vs = [.int a] ∧ 0 ≤ a ∧ a < 2 ^ 13000 ∧ Q (.int ((Float64.isqrt a.toNat : Nat) : Int)) H := rfl
theorem rd_sum {vs : List V} : rSum K vs H Q = ∃ (a : Addr) (ns : List Int), vs = [V.ref a] ∧ SqL K H a (ns.map V.int) ∧ Q (.int ns.sum) H := rfl
end

/-! ### a def of the text: it stands, its name, its parameters -/
structure Dn (K : PySem.W.Frag) (mg : Str → Option Value) (x : Str) (st : Stmt) (ps : List Str) : Prop where
  ok : ∃ f fd, Fun K x x st f fd ∧ mg x = some (.ref f) ∧ Binds K fd ps []
section
variable {P : Program} {w : World} {K : PySem.W.Frag} {mg : Str → Option Value} {base : Heap}
theorem Dn.cal {x : Str} {st : Stmt} {N ps : List Str} {k : Nat} {sp : Sp} (D : Dn K mg x st ps) (S : FnScope N ps (defScope st)) (len : ∀ vs H Q E, sp vs H Q E → vs.length = ps.length)
    (hbody : ∀ (f : Addr) (cdv : Value) (A : Around) (outer : List Env) (s : Shared) (H : Hp) (vs : List V) (Q : VK) (E : XK), Room k (A.deeper (envOfC x (defScope st) s.heap.objs.size f cdv)) → sp vs H Q E →
      ∃ t, PSs (cxOf CX0 P w K mg base N x (defScope st) f cdv A outer s H E).nox (defBody st) t ∧ t { nx := fun _ H' => Q .non H', rt := Q } (start N vs) H) : Cal P w K mg base x (k + 1) ps sp := by
  obtain ⟨f, fd, F, hm, hb⟩ := D.ok
  exact ⟨f, fd, F.ok S len fun cdv A outer s H vs Q E hr h => hbody f cdv A outer s H vs Q E hr h, hm, F.kp, hb⟩
end
/-- a weaker wish -/
theorem same_upd {H : Hp} {p : Addr} {o : HO} (h : H p = none) : Same H (upd H p o) := fun b x e => by
  rw [upd_ne (ne_of_none e h)]
  exact e
theorem ex_int {p : Int → Prop} {i : Int} : (∃ j, V.int i = V.int j ∧ p j) = p i := by simp
theorem ex_bl {p : Bool → Prop} {i : Bool} : (∃ j, V.bl i = V.bl j ∧ p j) = p i := by simp
theorem ex_ref {p : Addr → Prop} {i : Addr} : (∃ j, V.ref i = V.ref j ∧ p j) = p i := by simp
theorem ex_str {p : Str → Prop} {i : Str} : (∃ j, V.str i = V.str j ∧ p j) = p i := by simp
theorem ex_some {p : V → Prop} {x : V} : (∃ v, some (some x) = some (some v) ∧ p v) = p x := by simp
theorem ex_2i {p : Int → Int → Prop} {i j : Int} : (∃ a b, V.int i = V.int a ∧ V.int j = V.int b ∧ p a b) = p i j := by simp
theorem ex_l1 {p : Int → Prop} {i : Int} : (∃ j, [V.int i] = [V.int j] ∧ p j) = p i := by simp
theorem ex_l2 {p : Int → Int → Prop} {i j : Int} : (∃ a b, [V.int i, V.int j] = [V.int a, V.int b] ∧ p a b) = p i j := propext ⟨fun ⟨_, _, e, h⟩ => by cases e; exact h, fun h => ⟨_, _, rfl, h⟩⟩
theorem ex_v2 {p : V → V → Prop} {i j : V} : (∃ a b, [i, j] = [a, b] ∧ p a b) = p i j := propext ⟨fun ⟨_, _, e, h⟩ => by cases e; exact h, fun h => ⟨_, _, rfl, h⟩⟩
theorem int1_eq {p : Int → Prop} {q : Bool → Prop} {i : Int} : ((∃ j, [V.int i] = [V.int j] ∧ p j) ∨ ∃ k, [V.int i] = [V.bl k] ∧ q k) = p i := by simp
theorem scal_int {i j : Int} : (scal (V.int i) (V.int j) = true) = True := by simp [scal]
theorem scal_str {i j : Str} : (scal (V.str i) (V.str j) = true) = True := by simp [scal]
theorem dec_ii {i j : Int} : decide (V.int i = V.int j) = decide (i = j) := by simp
theorem ite_dec {p : Prop} [Decidable p] {A B : Prop} : (if decide p = true then A else B) = (if p then A else B) := by simp
theorem ite_ndec {p : Prop} [Decidable p] {A B : Prop} : (if (!decide p) = true then A else B) = (if p then B else A) := by
  by_cases h : p <;> simp [h]
section
variable {H : Hp} {Q : VK} {x y v : V}
theorem rd_setL {R : Hp → Prop} : rSetL x y v H R = ∃ p xs k j, x = .ref p ∧ y = .int k ∧ H p = some (.lst xs) ∧ ixN xs.length k = some j ∧ R (upd H p (.lst (xs.set j v))) := rfl
theorem rd_append {K : PySem.W.Frag} {to : TE} {t : TA} {σ : L2.St} : tBM K "list" rAppend to t σ H Q = to σ H fun x H1 => tyV K "list" x H1 ∧ t σ H1 fun xs H2 => ∃ l ys y, x = .ref l ∧ xs = [y] ∧ H2 l = some (.lst ys) ∧ ys.length < sizeLine ∧ Q .non (upd H2 l (.lst (ys ++ [y]))) := rfl
theorem K_nox {X : Cx} : X.nox.K = X.K := rfl
theorem K_cxOf {CX : CXT} {P : Program} {w : World} {K : PySem.W.Frag} {mg : Str → Option Value} {base : Heap} {N : List Str} {qual : Str} {scope : Scope} {f : Addr} {cd : Value} {A : Around} {outer : List Env} {s : Shared} {H : Hp} {E : XK} :
  (cxOf CX P w K mg base N qual scope f cd A outer s H E).K = K := rfl
end
/-- int * int with a small side -/
theorem mulL {i j : Int} (h : -(2 ^ 64) < i ∧ i < 2 ^ 64) : IntMulOk i j := CMul.ok (.inl h)
theorem mulR {i j : Int} (h : -(2 ^ 64) < j ∧ j < 2 ^ 64) : IntMulOk i j := CMul.ok (.inr h)
theorem tyL {K : PySem.W.Frag} {l : Addr} {xs : List V} {H : Hp} (h : H l = some (.lst xs)) : tyV K "list" (.ref l) H := .inl ⟨rfl, _, SqL.of h⟩
/-! ### loops, by a word: the reading stops at ForL .. -/
def ForJ (J : It) (g : TG) (tb : TS) (D : Ends) (σ : L2.St) (H1 : Hp) : Prop := ∃ W : Nat → Nat → L2.St → Hp → Prop, (∃ m, W 0 m σ H1) ∧ ∀ i m σ H, W i m σ H →
  (J.stop i H ∧ D.nx σ H) ∨ (J.go i H ∧ ∃ N : L2.St → Hp → Prop, (∀ σ' H', N σ' H' → ∃ m', m' < m ∧ W (i + 1) m' σ' H') ∧ ∀ x H', J.yld i H x H' → g x σ H' fun σ2 H2 => tb { D with nx := N, ct := N, bk := D.nx } σ2 H2)
def ForL (K : PySem.W.Frag) (a : Addr) := ForJ (Itl K a)
def ForT (K : PySem.W.Frag) (a : Addr) := ForJ (Itt K a)
def ForR (lo : Int) (n : Nat) := ForJ (Itr lo n)
def ForC (lo c : Int) (n : Nat) := ForJ (Itc lo c n)
section
variable {K : PySem.W.Frag} {a : Addr} {xs : List V} {g : TG} {tb : TS} {D : Ends} {σ : L2.St} {H : Hp} {te : TE} {ta : TA}
theorem rd_forL : tFor (iList K te) g tb D σ H = te σ H fun x H1 => ∃ a, x = .ref a ∧ (∃ xs, SqL K H1 a xs) ∧ ForL K a g tb D σ H1 := rfl
theorem rd_forT : tFor (iTup K te) g tb D σ H = te σ H fun x H1 => ∃ a, x = .ref a ∧ (∃ xs, SqT K H1 a xs) ∧ ForT K a g tb D σ H1 := rfl
theorem rd_forR1 : tFor (iRng1 ta) g tb D σ H = ta σ H fun vs H1 => ∃ j : Int, vs = [.int j] ∧ -(2 ^ 62) ≤ j ∧ j < 2 ^ 62 ∧ ForR 0 j.toNat g tb D σ H1 := rfl
theorem rd_forR2 : tFor (iRng2 ta) g tb D σ H = ta σ H fun vs H1 => ∃ i j : Int, vs = [.int i, .int j] ∧ (-(2 ^ 62) ≤ i ∧ i < 2 ^ 62 ∧ -(2 ^ 62) ≤ j ∧ j < 2 ^ 62) ∧ ForR i (j - i).toNat g tb D σ H1 := rfl
theorem rd_forR3 : tFor (iRng3 ta) g tb D σ H = ta σ H fun vs H1 => ∃ (i j c : Int) (n : Nat), vs = [.int i, .int j, .int c] ∧ RgC i j c n ∧ ForC i c n g tb D σ H1 := rfl
theorem ForL.mk (Pv : Nat → L2.St → Hp → Prop) (h0 : Pv 0 σ H) (hl : ∀ i σ H, i ≤ xs.length → Pv i σ H → SqL K H a xs)
    (hs : ∀ i x σ H, xs[i]? = some x → Pv i σ H → g x σ H fun σ2 H2 => tb { D with nx := Pv (i + 1), ct := Pv (i + 1), bk := D.nx } σ2 H2) (hd : ∀ σ H, Pv xs.length σ H → D.nx σ H) : ForL K a g tb D σ H := for_list Pv h0 hl hs hd
theorem ForT.mk (Pv : Nat → L2.St → Hp → Prop) (h0 : Pv 0 σ H) (hl : ∀ i σ H, i ≤ xs.length → Pv i σ H → SqT K H a xs)
    (hs : ∀ i x σ H, xs[i]? = some x → Pv i σ H → g x σ H fun σ2 H2 => tb { D with nx := Pv (i + 1), ct := Pv (i + 1), bk := D.nx } σ2 H2) (hd : ∀ σ H, Pv xs.length σ H → D.nx σ H) : ForT K a g tb D σ H := for_tup Pv h0 hl hs hd
theorem ForR.mk {lo : Int} {n : Nat} (Pv : Nat → L2.St → Hp → Prop) (h0 : Pv 0 σ H)
    (hs : ∀ i σ H, i < n → Pv i σ H → g (.int (lo + i)) σ H fun σ2 H2 => tb { D with nx := Pv (i + 1), ct := Pv (i + 1), bk := D.nx } σ2 H2) (hd : ∀ σ H, Pv n σ H → D.nx σ H) : ForR lo n g tb D σ H := for_range Pv h0 hs hd
theorem ForC.mk {lo c : Int} {n : Nat} (Pv : Nat → L2.St → Hp → Prop) (h0 : Pv 0 σ H)
    (hs : ∀ i σ H, i < n → Pv i σ H → g (.int (lo + (i : Nat) * c)) σ H fun σ2 H2 => tb { D with nx := Pv (i + 1), ct := Pv (i + 1), bk := D.nx } σ2 H2) (hd : ∀ σ H, Pv n σ H → D.nx σ H) : ForC lo c n g tb D σ H := for_rangeC Pv h0 hs hd
/-- while, the test's answer told (it lays nothing) -/
theorem while_mk {c : TT} (Pv : L2.St → Hp → Prop) (μ : L2.St → Hp → Nat) (h0 : Pv σ H)
    (hs : ∀ σ H, Pv σ H → ∃ b : Bool, (∀ Q : Bool → Hp → Prop, Q b H → c σ H Q) ∧ (b = true → tb { D with nx := fun σ' H' => Pv σ' H' ∧ μ σ' H' < μ σ H, ct := fun σ' H' => Pv σ' H' ∧ μ σ' H' < μ σ H, bk := D.nx } σ H) ∧ (b = false → D.nx σ H)) : tWhile c tb D σ H := by
  refine ⟨fun m σ H => m = μ σ H ∧ Pv σ H, ⟨_, rfl, h0⟩, ?_⟩
  rintro m σ H ⟨rfl, p⟩
  obtain ⟨b, hc, h1, h2⟩ := hs σ H p
  refine hc _ ?_
  cases b with
  | true => rw [if_pos rfl]; exact ⟨_, fun σ' H' ⟨p', l⟩ => ⟨_, l, rfl, p'⟩, h1 rfl⟩
  | false => rw [if_neg Bool.false_ne_true]; exact h2 rfl
end
/-! ### comprehensions -/
def LcJ (J : It) (g : TG) (tt : TT) (te : TE) (vs : List Nat) (σ : L2.St) (H1 : Hp) (Q : VK) : Prop := ∀ D, H1 D = none → ∃ W : Nat → Nat → Hp → Prop, (∃ m, W 0 m (upd H1 D (.lst []))) ∧ ∀ i m H, W i m H →
  (J.stop i H ∧ Q (.ref D) H) ∨ (J.go i H ∧ ∃ Nx : Hp → Prop, (∀ H', Nx H' → ∃ m', m' < m ∧ W (i + 1) m' H') ∧ ∀ x H', J.yld i H x H' → g x (wipe σ vs) H' fun σ2 H2 => wipe σ2 vs = wipe σ vs ∧ tt σ2 H2 fun b H3 =>
    if b = true then te σ2 H3 fun y H4 => ∃ acc, H4 D = some (.lst acc) ∧ acc.length < sizeLine ∧ Nx (upd H4 D (.lst (acc ++ [y]))) else Nx H3)
def LcL (K : PySem.W.Frag) (a : Addr) := LcJ (Itl K a)
def LcT (K : PySem.W.Frag) (a : Addr) := LcJ (Itt K a)
def LcR (lo : Int) (n : Nat) := LcJ (Itr lo n)
section
variable {K : PySem.W.Frag} {a : Addr} {xs : List V} {g : TG} {tt : TT} {te tl : TE} {ta : TA} {vs : List Nat} {σ : L2.St} {H : Hp} {Q : VK}
theorem rd_lcL : tLc (iList K tl) g tt te vs σ H Q = tl σ H fun x H1 => ∃ a, x = .ref a ∧ (∃ xs, SqL K H1 a xs) ∧ LcL K a g tt te vs σ H1 Q := rfl
theorem rd_lcT : tLc (iTup K tl) g tt te vs σ H Q = tl σ H fun x H1 => ∃ a, x = .ref a ∧ (∃ xs, SqT K H1 a xs) ∧ LcT K a g tt te vs σ H1 Q := rfl
theorem rd_lcR1 : tLc (iRng1 ta) g tt te vs σ H Q = ta σ H fun us H1 => ∃ j : Int, us = [.int j] ∧ -(2 ^ 62) ≤ j ∧ j < 2 ^ 62 ∧ LcR 0 j.toNat g tt te vs σ H1 Q := rfl
theorem rd_lcR2 : tLc (iRng2 ta) g tt te vs σ H Q = ta σ H fun us H1 => ∃ i j : Int, us = [.int i, .int j] ∧ (-(2 ^ 62) ≤ i ∧ i < 2 ^ 62 ∧ -(2 ^ 62) ≤ j ∧ j < 2 ^ 62) ∧ LcR i (j - i).toNat g tt te vs σ H1 Q := rfl
/-- the word of a comprehension at D: what is made so far, the heap -/
theorem LcL.mk (Pv : Nat → Addr → Hp → Prop) (h0 : ∀ D, H D = none → Pv 0 D (upd H D (.lst []))) (hl : ∀ D i H, i ≤ xs.length → Pv i D H → SqL K H a xs)
    (hs : ∀ D i x H, xs[i]? = some x → Pv i D H → g x (wipe σ vs) H fun σ2 H2 => wipe σ2 vs = wipe σ vs ∧ tt σ2 H2 fun b H3 =>
      if b = true then te σ2 H3 fun y H4 => ∃ acc, H4 D = some (.lst acc) ∧ acc.length < sizeLine ∧ Pv (i + 1) D (upd H4 D (.lst (acc ++ [y]))) else Pv (i + 1) D H3) (hd : ∀ D H', H D = none → Pv xs.length D H' → Q (.ref D) H') : LcL K a g tt te vs σ H Q :=
  fun D hD => lc_list (Qd := fun H' => Q (.ref D) H') (fun i H => Pv i D H) (h0 D hD) (hl D) (hs D) (fun H' p => hd D H' hD p)
theorem LcT.mk (Pv : Nat → Addr → Hp → Prop) (h0 : ∀ D, H D = none → Pv 0 D (upd H D (.lst []))) (hl : ∀ D i H, i ≤ xs.length → Pv i D H → SqT K H a xs)
    (hs : ∀ D i x H, xs[i]? = some x → Pv i D H → g x (wipe σ vs) H fun σ2 H2 => wipe σ2 vs = wipe σ vs ∧ tt σ2 H2 fun b H3 =>
      if b = true then te σ2 H3 fun y H4 => ∃ acc, H4 D = some (.lst acc) ∧ acc.length < sizeLine ∧ Pv (i + 1) D (upd H4 D (.lst (acc ++ [y]))) else Pv (i + 1) D H3) (hd : ∀ D H', H D = none → Pv xs.length D H' → Q (.ref D) H') : LcT K a g tt te vs σ H Q :=
  fun D hD => lc_tup (Qd := fun H' => Q (.ref D) H') (fun i H => Pv i D H) (h0 D hD) (hl D) (hs D) (fun H' p => hd D H' hD p)
theorem LcR.mk {lo : Int} {n : Nat} (Pv : Nat → Addr → Hp → Prop) (h0 : ∀ D, H D = none → Pv 0 D (upd H D (.lst [])))
    (hs : ∀ D i H, i < n → Pv i D H → g (.int (lo + i)) (wipe σ vs) H fun σ2 H2 => wipe σ2 vs = wipe σ vs ∧ tt σ2 H2 fun b H3 =>
      if b = true then te σ2 H3 fun y H4 => ∃ acc, H4 D = some (.lst acc) ∧ acc.length < sizeLine ∧ Pv (i + 1) D (upd H4 D (.lst (acc ++ [y]))) else Pv (i + 1) D H3) (hd : ∀ D H', H D = none → Pv n D H' → Q (.ref D) H') : LcR lo n g tt te vs σ H Q :=
  fun D hD => lc_range (Qd := fun H' => Q (.ref D) H') (fun i H => Pv i D H) (h0 D hD) (hs D) (fun H' p => hd D H' hD p)
theorem rd_yes {QT : Bool → Hp → Prop} : tYes σ H QT = QT true H := rfl
theorem rd_sl {r : V → Option Int → Option Int → Hp → VK → Prop} {tlo thi : L2.St → Hp → (Option Int → Hp → Prop) → Prop} : tSl r te tlo thi σ H Q = te σ H fun x H1 => tlo σ H1 fun l H2 => thi σ H2 fun u H3 => r x l u H3 Q := rfl
theorem rd_noPart {QO : Option Int → Hp → Prop} : tNoPart σ H QO = QO none H := rfl
theorem rd_part {QO : Option Int → Hp → Prop} : tPart te σ H QO = te σ H fun x H1 => ∃ i, x = .int i ∧ QO (some i) H1 := rfl
theorem rd_slL {x : V} {lo hi : Option Int} : rSlL K x lo hi H Q = ∃ a xs, x = .ref a ∧ SqL K H a xs ∧ ∀ p, H p = none → Q (.ref p) (upd H p (.lst (cutV xs lo hi))) := rfl
end
/-! ### isinstance of a built-in class -/
theorem isi_mk {K : PySem.W.Frag} {x : V} {T t : String} {b : Bool} {H : Hp} {Q : VK} (ty : TyX K H x (.type t)) (e : kitB t T = some b) (q : Q (.bl b) H) : rIsi K [x, .ty T] H Q := ⟨x, .ty T, _, _, b, rfl, .ty T, ty, kit_ty e, q⟩
/-! ### the same with the next turn's word a letter (simp doesn't read it) -/
section
variable {K : PySem.W.Frag} {a : Addr} {xs : List V} {g : TG} {tb : TS} {D : Ends} {σ : L2.St} {H : Hp} {te : TE} {ta : TA} {tt : TT} {vs : List Nat} {Q : VK}
theorem while_w {c : TT} (Pw : L2.St → Hp → Prop) (μ : L2.St → Hp → Nat) (h0 : Pw σ H)
    (hs : ∀ σ H, Pw σ H → ∀ N : L2.St → Hp → Prop, (∀ σ' H', Pw σ' H' → μ σ' H' < μ σ H → N σ' H') →
      ∃ b : Bool, (∀ Q : Bool → Hp → Prop, Q b H → c σ H Q) ∧ (b = true → tb { D with nx := N, ct := N, bk := D.nx } σ H) ∧ (b = false → D.nx σ H)) : tWhile c tb D σ H :=
  while_mk Pw μ h0 fun σ H p => hs σ H p _ fun _ _ h1 h2 => ⟨h1, h2⟩
theorem ForL.w (Pw : Nat → L2.St → Hp → Prop) (h0 : Pw 0 σ H) (hl : ∀ i σ H, i ≤ xs.length → Pw i σ H → SqL K H a xs)
    (hs : ∀ i x σ H, xs[i]? = some x → Pw i σ H → ∀ N : L2.St → Hp → Prop, (∀ σ' H', Pw (i + 1) σ' H' → N σ' H') → g x σ H fun σ2 H2 => tb { D with nx := N, ct := N, bk := D.nx } σ2 H2) (hd : ∀ σ H, Pw xs.length σ H → D.nx σ H) : ForL K a g tb D σ H :=
  ForL.mk Pw h0 hl (fun i x σ H e p => hs i x σ H e p _ fun _ _ h => h) hd
theorem ForT.w (Pw : Nat → L2.St → Hp → Prop) (h0 : Pw 0 σ H) (hl : ∀ i σ H, i ≤ xs.length → Pw i σ H → SqT K H a xs)
    (hs : ∀ i x σ H, xs[i]? = some x → Pw i σ H → ∀ N : L2.St → Hp → Prop, (∀ σ' H', Pw (i + 1) σ' H' → N σ' H') → g x σ H fun σ2 H2 => tb { D with nx := N, ct := N, bk := D.nx } σ2 H2) (hd : ∀ σ H, Pw xs.length σ H → D.nx σ H) : ForT K a g tb D σ H :=
  ForT.mk Pw h0 hl (fun i x σ H e p => hs i x σ H e p _ fun _ _ h => h) hd
theorem ForR.w {lo : Int} {n : Nat} (Pw : Nat → L2.St → Hp → Prop) (h0 : Pw 0 σ H)
    (hs : ∀ i σ H, i < n → Pw i σ H → ∀ N : L2.St → Hp → Prop, (∀ σ' H', Pw (i + 1) σ' H' → N σ' H') → g (.int (lo + i)) σ H fun σ2 H2 => tb { D with nx := N, ct := N, bk := D.nx } σ2 H2) (hd : ∀ σ H, Pw n σ H → D.nx σ H) : ForR lo n g tb D σ H :=
  ForR.mk Pw h0 (fun i σ H e p => hs i σ H e p _ fun _ _ h => h) hd
theorem ForC.w {lo c : Int} {n : Nat} (Pw : Nat → L2.St → Hp → Prop) (h0 : Pw 0 σ H)
    (hs : ∀ i σ H, i < n → Pw i σ H → ∀ N : L2.St → Hp → Prop, (∀ σ' H', Pw (i + 1) σ' H' → N σ' H') → g (.int (lo + (i : Nat) * c)) σ H fun σ2 H2 => tb { D with nx := N, ct := N, bk := D.nx } σ2 H2) (hd : ∀ σ H, Pw n σ H → D.nx σ H) : ForC lo c n g tb D σ H :=
  ForC.mk Pw h0 (fun i σ H e p => hs i σ H e p _ fun _ _ h => h) hd
/-- a comprehension: Pw turn D made heap: the list at D holds made -/
theorem LcL.w (Pw : Nat → Addr → List V → Hp → Prop) (h0 : ∀ D, H D = none → Pw 0 D [] (upd H D (.lst []))) (hl : ∀ D i ys H, i ≤ xs.length → Pw i D ys H → SqL K H a xs)
    (hs : ∀ D i x ys H, xs[i]? = some x → Pw i D ys H → ∀ N : Hp → Prop, (∀ ys' H', Pw (i + 1) D ys' H' → N H') → g x (wipe σ vs) H fun σ2 H2 => wipe σ2 vs = wipe σ vs ∧ tt σ2 H2 fun b H3 =>
      if b = true then te σ2 H3 fun y H4 => ∃ acc, H4 D = some (.lst acc) ∧ acc.length < sizeLine ∧ N (upd H4 D (.lst (acc ++ [y]))) else N H3) (hd : ∀ D ys H', H D = none → Pw xs.length D ys H' → Q (.ref D) H') : LcL K a g tt te vs σ H Q :=
  LcL.mk (xs := xs) (fun i D H => ∃ ys, Pw i D ys H) (fun D n => ⟨[], h0 D n⟩) (fun D i H hi ⟨ys, p⟩ => hl D i ys H hi p) (fun D i x H e ⟨ys, p⟩ => hs D i x ys H e p _ fun ys' H' h => ⟨ys', h⟩) (fun D H' n ⟨ys, p⟩ => hd D ys H' n p)
theorem LcT.w (Pw : Nat → Addr → List V → Hp → Prop) (h0 : ∀ D, H D = none → Pw 0 D [] (upd H D (.lst []))) (hl : ∀ D i ys H, i ≤ xs.length → Pw i D ys H → SqT K H a xs)
    (hs : ∀ D i x ys H, xs[i]? = some x → Pw i D ys H → ∀ N : Hp → Prop, (∀ ys' H', Pw (i + 1) D ys' H' → N H') → g x (wipe σ vs) H fun σ2 H2 => wipe σ2 vs = wipe σ vs ∧ tt σ2 H2 fun b H3 =>
      if b = true then te σ2 H3 fun y H4 => ∃ acc, H4 D = some (.lst acc) ∧ acc.length < sizeLine ∧ N (upd H4 D (.lst (acc ++ [y]))) else N H3) (hd : ∀ D ys H', H D = none → Pw xs.length D ys H' → Q (.ref D) H') : LcT K a g tt te vs σ H Q :=
  LcT.mk (xs := xs) (fun i D H => ∃ ys, Pw i D ys H) (fun D n => ⟨[], h0 D n⟩) (fun D i H hi ⟨ys, p⟩ => hl D i ys H hi p) (fun D i x H e ⟨ys, p⟩ => hs D i x ys H e p _ fun ys' H' h => ⟨ys', h⟩) (fun D H' n ⟨ys, p⟩ => hd D ys H' n p)
theorem LcR.w {lo : Int} {n : Nat} (Pw : Nat → Addr → List V → Hp → Prop) (h0 : ∀ D, H D = none → Pw 0 D [] (upd H D (.lst [])))
    (hs : ∀ D i ys H, i < n → Pw i D ys H → ∀ N : Hp → Prop, (∀ ys' H', Pw (i + 1) D ys' H' → N H') → g (.int (lo + i)) (wipe σ vs) H fun σ2 H2 => wipe σ2 vs = wipe σ vs ∧ tt σ2 H2 fun b H3 =>
      if b = true then te σ2 H3 fun y H4 => ∃ acc, H4 D = some (.lst acc) ∧ acc.length < sizeLine ∧ N (upd H4 D (.lst (acc ++ [y]))) else N H3) (hd : ∀ D ys H', H D = none → Pw n D ys H' → Q (.ref D) H') : LcR lo n g tt te vs σ H Q :=
  LcR.mk (fun i D H => ∃ ys, Pw i D ys H) (fun D n => ⟨[], h0 D n⟩) (fun D i H e ⟨ys, p⟩ => hs D i ys H e p _ fun ys' H' h => ⟨ys', h⟩) (fun D H' n ⟨ys, p⟩ => hd D ys H' n p)
end
theorem rd_max2 {xs : List V} {H : Hp} {Q : VK} : (fun (xs : List V) (H : Hp) (Q : VK) => ∃ i j : Int, xs = [.int i, .int j] ∧ Q (.int (if j > i then j else i)) H) xs H Q = ∃ i j : Int, xs = [.int i, .int j] ∧ Q (.int (if j > i then j else i)) H := rfl
theorem rd_wipe0 {σ : L2.St} : wipe σ [] = σ := rfl
theorem rd_wipe1 {σ : L2.St} {v : Nat} {vs : List Nat} : wipe σ (v :: vs) = (wipe σ vs).set v none := rfl
theorem rd_eqD {K : PySem.W.Frag} {x y : V} {H : Hp} {Q : VK} : rEqD K x y H Q = ∃ d e, Dp K H x d ∧ Dp K H y e ∧ SeqAt.shaped d = true ∧ SeqAt.shaped e = true ∧ Q (.bl (PyData.eqv d e)) H := rfl
theorem rd_neD {K : PySem.W.Frag} {x y : V} {H : Hp} {Q : VK} : rNeD K x y H Q = ∃ d e, Dp K H x d ∧ Dp K H y e ∧ SeqAt.shaped d = true ∧ SeqAt.shaped e = true ∧ Q (.bl (!PyData.eqv d e)) H := rfl
theorem rd_rep {x y : V} {H : Hp} {Q : VK} : rRep x y H Q = ∃ l k xs, x = .ref l ∧ y = .int k ∧ H l = some (.lst xs) ∧ -(2 ^ 63) ≤ k ∧ k < 2 ^ 63 ∧ xs.length * k.toNat ≤ sizeLine ∧ ∀ p, H p = none → Q (.ref p) (upd H p (.lst (List.replicate k.toNat xs).flatten)) := rfl
theorem dp_ints {K : PySem.W.Frag} {H : Hp} : ∀ l : List Int, DpAll K H (l.map V.int) (l.map PyData.int)
  | [] => .nil
  | i :: l => .cons (.int i) (dp_ints l)
theorem dp_strs {K : PySem.W.Frag} {H : Hp} : ∀ l : List Str, DpAll K H (l.map V.str) (l.map PyData.str)
  | [] => .nil
  | i :: l => .cons (.str i) (dp_strs l)
/-! ### powers of any size; tuples made of lists; data -/
def CPowI (i j : Int) : Prop := 0 ≤ j ∧ (Builtin.Int.intBits i : Int) * j ≤ 2 ^ 27
theorem op_powI {X : Cx} : OpR X (binaryOp .Pow) (rI CPowI fun i j => .int (i ^ j.toNat)) := opI fun _ _ _ _ _ _ _ hc q => pow_int hc.1 hc.2 q
theorem bits_le {i : Int} {n : Nat} (h : i.natAbs < 2 ^ n) (h0 : 0 < n) : Builtin.Int.intBits i ≤ n := by
  have a := PySem.Flt.log2_lt_of h0 h
  unfold Builtin.Int.intBits
  split <;> omega
theorem powI {i j : Int} {n : Nat} (h : i.natAbs < 2 ^ n) (h0 : 0 < n) (hj : 0 ≤ j) (hz : (n : Int) * j ≤ 2 ^ 27) : CPowI i j := by
  refine ⟨hj, Int.le_trans (Int.mul_le_mul_of_nonneg_right ?_ hj) hz⟩
  exact Int.ofNat_le.mpr (bits_le h h0)
def rTupOf (K : PySem.W.Frag) : List V → Hp → VK → Prop := fun xs H Q => ∃ p ys, xs = [.ref p] ∧ ((SqL K H p ys ∧ ∀ l, H l = none → Q (.ref l) (upd H l (.tup ys))) ∨ (SqT K H p ys ∧ Q (.ref p) H))
theorem cr_tupOf {X : Cx} : CallR X (.type "tuple") (rTupOf X.K) := call_tuple_of
theorem rd_tupOf {K : PySem.W.Frag} {xs : List V} {H : Hp} {Q : VK} : rTupOf K xs H Q = ∃ p ys, xs = [.ref p] ∧ ((SqL K H p ys ∧ ∀ l, H l = none → Q (.ref l) (upd H l (.tup ys))) ∨ (SqT K H p ys ∧ Q (.ref p) H)) := rfl
def rLenS (K : PySem.W.Frag) : List V → Hp → VK → Prop := fun xs H Q => ∃ x n, xs = [x] ∧ LenV K x H n ∧ Q (.int n) H
theorem cr_lenS {X : Cx} : CallR X (.builtin "len") (rLenS X.K) := call_len
theorem rd_lenS {K : PySem.W.Frag} {xs : List V} {H : Hp} {Q : VK} : rLenS K xs H Q = ∃ x n, xs = [x] ∧ LenV K x H n ∧ Q (.int n) H := rfl
theorem rd_gcd {vs : List V} {H : Hp} {Q : VK} : rGcd vs H Q = ∃ a b : Int, vs = [.int a, .int b] ∧ Q (.int ((Nat.gcd a.natAbs b.natAbs : Nat) : Int)) H := rfl
/-- what holds between two statements -/
theorem seq_cut {t u : TS} {D : Ends} {σ : L2.St} {H : Hp} (Pw : L2.St → Hp → Prop) (h1 : ∀ R : L2.St → Hp → Prop, (∀ σ H, Pw σ H → R σ H) → t { D with nx := R } σ H) (h2 : ∀ σ H, Pw σ H → u D σ H) : tSeq t u D σ H := h1 (u D) h2
theorem rd_any {K : PySem.W.Frag} {vs : List V} {H : Hp} {Q : VK} : rAny K vs H Q = ∃ (a : Addr) (bs : List Bool), vs = [V.ref a] ∧ SqL K H a (bs.map V.bl) ∧ Q (.bl (bs.any id)) H := rfl
theorem rd_all {K : PySem.W.Frag} {vs : List V} {H : Hp} {Q : VK} : rAll K vs H Q = ∃ (a : Addr) (bs : List Bool), vs = [V.ref a] ∧ SqL K H a (bs.map V.bl) ∧ Q (.bl (bs.all id)) H := rfl
theorem rd_ext {K : PySem.W.Frag} {to : TE} {t : TA} {σ : L2.St} {H : Hp} {Q : VK} : tBM K "list" rExtend to t σ H Q = to σ H fun x H1 => tyV K "list" x H1 ∧ t σ H1 fun xs H2 => ∃ l b ys zs, x = .ref l ∧ xs = [.ref b] ∧ H2 l = some (.lst ys) ∧ H2 b = some (.lst zs) ∧ ys.length + zs.length ≤ sizeLine ∧ Q .non (upd H2 l (.lst (ys ++ zs))) := rfl
theorem rd_glst {K : PySem.W.Frag} {n : Nat} {g : TGs} {v : V} {σ : L2.St} {H : Hp} {QS : L2.St → Hp → Prop} : gLst K n g v σ H QS = ∃ a xs, v = .ref a ∧ SqL K H a xs ∧ xs.length = n ∧ g xs σ H QS := rfl
theorem ix_listK {X : Cx} {K : PySem.W.Frag} (h : X.K = K) : IxR X (rIxL K) := by
  subst h
  exact ix_list
theorem ix_tupK {X : Cx} {K : PySem.W.Frag} (h : X.K = K) : IxR X (rIxT K) := by
  subst h
  exact ix_tup
end CB/-! sorted of a list of triples of ints, any number of them -/
namespace CB
open PySem PyProof.Rows Srt SrtO L2
abbrev T3 := Int × Int × Int
def lexT (p q : T3) : Bool := if p.1 = q.1 then lexB p.2 q.2 else decide (p.1 < q.1)
theorem lexT_iff {p q : T3} : lexT p q = true ↔ p.1 < q.1 ∨ (p.1 = q.1 ∧ (p.2.1 < q.2.1 ∨ (p.2.1 = q.2.1 ∧ p.2.2 < q.2.2))) := by
  unfold lexT
  by_cases e : p.1 = q.1
  · rw [if_pos e, lexB_iff]
    omega
  · rw [if_neg e, decide_eq_true_eq]
    omega
theorem lexT_no {p q : T3} : lexT p q = false ↔ ¬ (p.1 < q.1 ∨ (p.1 = q.1 ∧ (p.2.1 < q.2.1 ∨ (p.2.1 = q.2.1 ∧ p.2.2 < q.2.2)))) := by
  rw [← lexT_iff]
  cases lexT p q <;> simp
theorem swo_T {α : Type} (k : α → T3) : Swo fun v u => lexT (k v) (k u) := by
  refine ⟨fun x y h => ?_, fun x y z h1 h2 => ?_⟩
  · have a := lexT_iff.mp h
    refine lexT_no.mpr ?_
    omega
  · have a := lexT_no.mp h1
    have b := lexT_no.mp h2
    refine lexT_no.mpr ?_
    omega
theorem lexT_eq {p q : T3} (h1 : lexT p q = false) (h2 : lexT q p = false) : p = q := by
  have a := lexT_no.mp h1
  have b := lexT_no.mp h2
  obtain ⟨p1, p2, p3⟩ := p
  obtain ⟨q1, q2, q3⟩ := q
  simp only at a b
  have e1 : p1 = q1 := by omega
  have e2 : p2 = q2 := by omega
  have e3 : p3 = q3 := by omega
  rw [e1, e2, e3]
/-- two sorted rearrangements of triples are one -/
theorem srtT_uniq : ∀ {l m : List T3}, l.Pairwise (fun p q => lexT q p = false) → m.Pairwise (fun p q => lexT q p = false) → l.Perm m → l = m := fun {l m} h1 h2 h => by
  refine List.Perm.eq_of_pairwise (le := fun p q => lexT q p = false) (fun a b _ _ x y => lexT_eq y x) h1 h2 h
section
variable {prog : Program} {w : World} {A : Around} {E : Value → Shared → Prop} {s : Shared}
def IsTrip (h : Heap) (v : Value) (k : T3) : Prop := ∃ a o t u r n, v = .ref a ∧ h.get? a = some o ∧ o.cls = .type "tuple" ∧ o.data = .seq #[.int k.1 t, .int k.2.1 u, .int k.2.2 r] n
theorem IsTrip.keeps {h h' : Heap} {v : Value} {k : T3} (p : IsTrip h v k) (kk : ∀ b o, h.get? b = some o → o.cls = .type "tuple" → h'.get? b = some o) : IsTrip h' v k := by
  obtain ⟨a, o, t, u, r, n, e, ho, hc, hd⟩ := p
  exact ⟨a, o, t, u, r, n, e, kk _ _ ho hc, hc, hd⟩
theorem firstsT {h : Heap} : ∀ {vs : List Value}, (∀ v ∈ vs, ∃ k, IsTrip h v k) → ∃ fs : List Value, PySem.W.KatTups h vs fs ∧ fs.length = vs.length ∧ ∀ f ∈ fs, ∃ x t, f = Value.int x t
  | [], _ => ⟨[], PySem.W.KatTups.nil, rfl, fun _ hm => by simp at hm⟩
  | v :: vs, hp => by
    obtain ⟨fs, h1, h2, h3⟩ := firstsT (vs := vs) fun v' hm => hp v' (List.mem_cons_of_mem _ hm)
    obtain ⟨k, a, o, t, u, r, n, e, ho, hc, hd⟩ := hp v (List.mem_cons_self ..)
    subst e
    refine ⟨.int k.1 t :: fs, PySem.W.KatTups.cons ho hc hd rfl h1, by rw [List.length_cons, List.length_cons, h2], fun f hm => ?_⟩
    rcases List.mem_cons.mp hm with rfl | hm
    · exact ⟨k.1, t, rfl⟩
    · exact h3 f hm
theorem trip_cmp {vs : List Value} {k : Value → T3} (hp : ∀ v ∈ vs, IsTrip s.heap v (k v)) : SrtO.Cmp prog w A s (tuples' true) (fun p => p.1 ∈ vs) (lt2 fun v u => lexT (k v) (k u)) := by
  intro p q hm hm'
  have h1 := hp _ hm
  have h2 := hp _ hm'
  show wpAny (model prog w) A (keyLt' (tuples' true) p.1 q.1) (fun r s' => s' = s ∧ r = lexT (k p.1) (k q.1)) (fun _ _ => False) s
  generalize k p.1 = kp at h1 ⊢
  generalize k q.1 = kq at h2 ⊢
  obtain ⟨x, y, z⟩ := kp
  obtain ⟨x', y', z'⟩ := kq
  obtain ⟨a, o, t, u, r, n, e, ho, hc, hd⟩ := h1
  obtain ⟨a', o', t', u', r', n', e', ho', hc', hd'⟩ := h2
  rw [e, e']
  simp only at hd hd'
  refine PySem.W.kat_lt ho hd ho' hd' ?_
  show PySem.W.KatLex prog w A true (decide (3 < 3)) _ [(.int x t, .int x' t'), (.int y u, .int y' u'), (.int z r, .int z' r')] 0 s
  refine PySem.W.kat_cons (SeqAt.EqAt.int_int x t x' t' prog w _ _ ?_)
  refine PySem.W.kat_go (fun e1 => ?_) (fun e1 => ?_)
  · have ex : x = x' := by simpa using e1
    refine PySem.W.kat_yes (PySem.W.kat_cons (SeqAt.EqAt.int_int y u y' u' prog w _ _ ?_))
    refine PySem.W.kat_go (fun e2 => ?_) (fun e2 => ?_)
    · have ey : y = y' := by simpa using e2
      refine PySem.W.kat_yes (PySem.W.kat_cons (SeqAt.EqAt.int_int z r z' r' prog w _ _ ?_))
      refine PySem.W.kat_go (fun e3 => ?_) (fun e3 => ?_)
      · have ez : z = z' := by simpa using e3
        have e4 : lexT (x, y, z) (x', y', z') = false := lexT_no.mpr (by simp only; omega)
        exact PySem.W.kat_yes (PySem.W.kat_nil ⟨rfl, e4.symm⟩)
      · have e4 : lexT (x, y, z) (x', y', z') = decide (z < z') := by
          unfold lexT lexB
          simp only
          rw [if_pos ex, if_pos ey]
        refine PySem.W.kat_no (PySem.W.kat_one _ _ (PyProof.Rows.lt_int ?_))
        exact (show s = s ∧ decide (z < z') = lexT (x, y, z) (x', y', z') from ⟨rfl, e4.symm⟩)
    · have ey : ¬ y = y' := by simpa using e2
      have e4 : lexT (x, y, z) (x', y', z') = decide (y < y') := by
        unfold lexT lexB
        simp only
        rw [if_pos ex, if_neg ey]
      refine PySem.W.kat_no (PySem.W.kat_one _ _ (PyProof.Rows.lt_int ?_))
      exact (show s = s ∧ decide (y < y') = lexT (x, y, z) (x', y', z') from ⟨rfl, e4.symm⟩)
  · have ex : ¬ x = x' := by simpa using e1
    have e3 : lexT (x, y, z) (x', y', z') = decide (x < x') := by
      unfold lexT
      simp only
      rw [if_neg ex]
    exact PySem.W.kat_no (oneLt_int ⟨rfl, e3.symm⟩)
theorem trips_sortableO {a : Addr} {vs : List Value} {k : Value → T3} (h0 : 0 < vs.length) (hp : ∀ v ∈ vs, IsTrip s.heap v (k v)) (ha : ∀ o, s.heap.get? a = some o → o.cls ≠ .type "tuple") : SortableO prog w A s a vs fun v u => lexT (k v) (k u) := by
  intro h' keep
  have hp' : ∀ v ∈ vs, IsTrip h' v (k v) := fun v hm => (hp v hm).keeps fun b o e c => keep b o (fun z => by subst z; exact ha o e c) e
  obtain ⟨fs, h1, h2, h3⟩ := firstsT fun v hm => ⟨_, hp' v hm⟩
  refine ⟨tuples' true, fun Q E hq => ?_, trip_cmp hp'⟩
  refine PySem.W.kat_kind (T := .type "int") h1 (by omega) (fun f hm => ?_) (by rfl) ?_
  · obtain ⟨x, t, rfl⟩ := h3 f hm
    exact PySem.W.Looks.now
  · have e : (Value.type "int" != Value.type "tuple") = true := by first | decide +kernel | rfl | decide
    rw [e]
    exact hq
theorem sorted_tripsO {l : Addr} {vs : List Value} {k : Value → T3} {Q : Value → Shared → Prop} (hl : s.heap.IsList l vs.toArray) (hz : vs.length ≤ sizeLine) (hp : ∀ v ∈ vs, IsTrip s.heap v (k v))
    (h : ∀ (h' : Heap) (d : Addr) (out : List Value), Srtd (fun v u => lexT (k v) (k u)) out → Stb (fun v u => lexT (k v) (k u)) out vs → (∀ b o, s.heap.get? b = some o → h'.get? b = some o) → s.heap.objs.size ≤ d → (∃ n, h'.get? d = some (seqObj "list" out.toArray n)) → Q (.ref d) { s with heap := h' }) :
    wpAny (model prog w) A (call (.builtin "sorted") [.ref l]) Q E s := by
  refine sorted_ord (swo_T k) hl hz (fun h2 h₁ a ha kk => ?_) fun out hs hb => ?_
  · refine trips_sortableO (s := { s with heap := h₁ }) (by omega) (fun v hm => (hp v hm).keeps fun b o e _ => (kk b o e).2) fun o e => ?_
    have e' : some o = some (seqObj "list" vs.toArray 0) := e.symm.trans ha
    cases e'
    intro c
    exact absurd (Value.type.inj c) (by decide)
  · exact h _ _ out hs hb (fun b o e => sortedAll_old e) (Nat.le_succ _) (sortedAll_at s.heap vs out.toArray)
end
end CB
namespace CB
open PySem PySem.Spec PyProof.Rows L2
/-- the triple that stands at x -/
def kT (H : Hp) : V → T3
  | .ref r => match H r with
    | some (.tup [.int a, .int b, .int c]) => (a, b, c)
    | _ => (0, 0, 0)
  | _ => (0, 0, 0)
def IsT3 (H : Hp) (x : V) : Prop := ∃ r a b c, x = V.ref r ∧ H r = some (.tup [.int a, .int b, .int c])
theorem IsT3.at {H : Hp} {x : V} (h : IsT3 H x) : ∃ r, x = V.ref r ∧ H r = some (.tup [.int (kT H x).1, .int (kT H x).2.1, .int (kT H x).2.2]) := by
  obtain ⟨r, a, b, c, rfl, e⟩ := h
  refine ⟨r, rfl, ?_⟩
  have q : kT H (V.ref r) = (a, b, c) := by
    show (match H r with
      | some (.tup [.int a, .int b, .int c]) => (a, b, c)
      | _ => (0, 0, 0)) = _
    rw [e]
  rw [q, e]
/-- the list of triples that stand at the xs -/
def Trs (H : Hp) (xs : List V) (ts : List T3) : Prop := (∀ x ∈ xs, IsT3 H x) ∧ ts = xs.map (kT H)
theorem kT_same {H H' : Hp} (s : Same H H') {x : V} (h : IsT3 H x) : kT H' x = kT H x ∧ IsT3 H' x := by
  obtain ⟨r, a, b, c, rfl, e⟩ := h
  have e' := s _ _ e
  refine ⟨?_, r, a, b, c, rfl, e'⟩
  show (match H' r with
      | some (.tup [.int a, .int b, .int c]) => (a, b, c)
      | _ => (0, 0, 0)) = (match H r with
      | some (.tup [.int a, .int b, .int c]) => (a, b, c)
      | _ => (0, 0, 0))
  rw [e, e']
theorem Trs.same {H H' : Hp} {xs : List V} {ts : List T3} (s : Same H H') (h : Trs H xs ts) : Trs H' xs ts := by
  obtain ⟨h1, rfl⟩ := h
  exact ⟨fun x m => (kT_same s (h1 x m)).2, List.map_congr_left fun x m => (kT_same s (h1 x m)).1.symm⟩
theorem Trs.keep {H H' : Hp} {xs : List V} {ts : List T3} (s : ∀ r a b c, H r = some (.tup [.int a, .int b, .int c]) → H' r = some (.tup [.int a, .int b, .int c])) (h : Trs H xs ts) : Trs H' xs ts := by
  obtain ⟨h1, rfl⟩ := h
  refine ⟨fun x m => ?_, List.map_congr_left fun x m => ?_⟩
  · obtain ⟨r, a, b, c, e, q⟩ := h1 x m
    exact ⟨r, a, b, c, e, s _ _ _ _ q⟩
  · obtain ⟨r, a, b, c, rfl, q⟩ := h1 x m
    show (match H r with
      | some (.tup [.int a, .int b, .int c]) => (a, b, c)
      | _ => (0, 0, 0)) = (match H' r with
      | some (.tup [.int a, .int b, .int c]) => (a, b, c)
      | _ => (0, 0, 0))
    rw [q, s _ _ _ _ q]
theorem same_at {H H1 : Hp} {f : Addr} {o : HO} (s : Same H H1) (n : H f = none) : Same H (upd H1 f o) := fun b x e => by
  rw [upd_ne (ne_of_none e n)]
  exact s b x e
theorem Trs.updL {H : Hp} {f : Addr} {l : List V} {o : HO} {xs : List V} {ts : List T3} (h : Trs H xs ts) (e : H f = some (.lst l)) : Trs (upd H f o) xs ts :=
  h.keep fun r a b c q => by rw [upd_ne (ne_of q e (by intro z; cases z))]; exact q
theorem Trs.updN {H : Hp} {f : Addr} {o : HO} {xs : List V} {ts : List T3} (h : Trs H xs ts) (e : H f = none) : Trs (upd H f o) xs ts := h.same (same_upd e)
theorem Trs.nil {H : Hp} : Trs H [] [] := ⟨fun x m => by simp at m, rfl⟩
theorem Trs.snoc {H : Hp} {xs : List V} {ts : List T3} {r : Addr} {a b c : Int} (h : Trs H xs ts) (e : H r = some (.tup [.int a, .int b, .int c])) : Trs H (xs ++ [.ref r]) (ts ++ [(a, b, c)]) := by
  obtain ⟨h1, rfl⟩ := h
  refine ⟨fun x m => ?_, ?_⟩
  · rcases List.mem_append.mp m with m | m
    · exact h1 x m
    · rw [List.mem_singleton.mp m]
      exact ⟨r, a, b, c, rfl, e⟩
  · rw [List.map_append]
    show _ = _ ++ [kT H (.ref r)]
    have q : kT H (V.ref r) = (a, b, c) := by
      show (match H r with
        | some (.tup [.int a, .int b, .int c]) => (a, b, c)
        | _ => (0, 0, 0)) = _
      rw [e]
    rw [q]
theorem Trs.get {H : Hp} {xs : List V} {ts : List T3} {i : Nat} {x : V} (h : Trs H xs ts) (e : xs[i]? = some x) : ∃ r a b c, x = .ref r ∧ H r = some (.tup [.int a, .int b, .int c]) ∧ ts[i]? = some (a, b, c) := by
  obtain ⟨h1, rfl⟩ := h
  obtain ⟨r, e1, e2⟩ := (h1 x (List.mem_of_getElem? e)).at
  exact ⟨r, _, _, _, e1, e2, by rw [List.getElem?_map, e]; rfl⟩
theorem Trs.len {H : Hp} {xs : List V} {ts : List T3} (h : Trs H xs ts) : ts.length = xs.length := by
  rw [h.2, List.length_map]
/-- sorted(xs), xs a list of triples of ints -/
def rSorted3 (K : PySem.W.Frag) : List V → Hp → VK → Prop := fun vs H Q => ∃ (a : Addr) (xs : List V) (ts : List T3), vs = [V.ref a] ∧ SqL K H a xs ∧ Trs H xs ts ∧
  ∀ ys us p, Trs H ys us → us.Pairwise (fun p q => lexT q p = false) → us.Perm ts → H p = none → Q (.ref p) (upd H p (.lst ys))
section
variable {X : Cx}
theorem cr_sorted3 : CallR X (.builtin "sorted") (rSorted3 X.K) := by
  intro pins s σ H vs us Q I r h
  obtain ⟨a, xs, ts, rfl, hs, ⟨hx, rfl⟩, q⟩ := h
  obtain ⟨its, rv, hl, hz⟩ := I.list hs
  obtain ⟨u, rfl, ru⟩ := vals1 r
  obtain rfl : u = Value.ref a := ru
  obtain ⟨e1, e2⟩ := refs_back rv fun x m => by
    obtain ⟨t, e, _⟩ := (hx x m).at
    exact ⟨t, e⟩
  refine sorted_tripsO (k := fun u => kT H (backV u)) hl.isList (by rw [← rv.length]; exact hz) (fun v hv => ?_) fun h' d out h1 h2 kp hd hn => ?_
  · obtain ⟨t, rfl⟩ := e2 v hv
    have hm : V.ref t ∈ xs := by rw [e1]; exact List.mem_map.mpr ⟨_, hv, rfl⟩
    obtain ⟨t', e, ht⟩ := (hx _ hm).at
    cases e
    obtain ⟨_, its2, r2, o, ho, hc, n, hd⟩ := I.hok _ _ ht
    cases r2 with
    | cons ra r2 =>
      cases r2 with
      | cons rb r2 =>
        cases r2 with
        | cons rc r2 =>
          cases r2
          obtain ⟨t1, rfl⟩ := ra
          obtain ⟨t2, rfl⟩ := rb
          obtain ⟨t3, rfl⟩ := rc
          exact ⟨t, o, t1, t2, t3, n, rfl, ho, hc, hd⟩
  · have h3 : ∀ u ∈ out, ∃ a, u = Value.ref a := fun u hu => e2 u (h2.perm.mem_iff.mp hu)
    obtain ⟨n, hn⟩ := hn
    have hp : (out.map backV).Perm xs := by
      rw [e1]
      exact h2.perm.map backV
    have hT : ∀ x ∈ out.map backV, IsT3 H x := fun x m => hx x (hp.mem_iff.mp m)
    have hS : ((out.map backV).map (kT H)).Pairwise (fun p q => lexT q p = false) := by
      rw [List.pairwise_map, List.pairwise_map]
      exact h1
    refine ⟨.ref d, upd H d (.lst (out.map backV)), I.laid (t' := s.toks) kp hd ⟨?_, out, n, vals_back h3, hn⟩, rfl, q _ _ d ⟨hT, rfl⟩ hS (hp.map (kT H)) (I.hok.fresh hd)⟩
    rw [hp.length_eq]
    exact hz
end
section
variable {H : Hp} {Q : VK} {K : PySem.W.Frag} {vs : List V}
theorem rd_sorted3 : rSorted3 K vs H Q = ∃ (a : Addr) (xs : List V) (ts : List T3), vs = [V.ref a] ∧ SqL K H a xs ∧ Trs H xs ts ∧
  ∀ ys us p, Trs H ys us → us.Pairwise (fun p q => lexT q p = false) → us.Perm ts → H p = none → Q (.ref p) (upd H p (.lst ys)) := rfl
end
/-! ### triples as data -/
def dT3 (t : T3) : PyData := .tuple [.int t.1, .int t.2.1, .int t.2.2]
theorem dp_t3 {K : PySem.W.Frag} {H : Hp} {x : V} (h : IsT3 H x) : Dp K H x (dT3 (kT H x)) := by
  obtain ⟨r, rfl, e⟩ := h.at
  exact .tup (SqT.of e) (.cons (.int _) (.cons (.int _) (.cons (.int _) .nil)))
theorem dp_trs {K : PySem.W.Frag} {H : Hp} : ∀ {xs : List V} {ts : List T3}, Trs H xs ts → DpAll K H xs (ts.map dT3) := fun {xs ts} h => by
  obtain ⟨h1, rfl⟩ := h
  induction xs with
  | nil => exact .nil
  | cons x xs ih => exact .cons (dp_t3 (h1 x List.mem_cons_self)) (ih fun y m => h1 y (List.mem_cons_of_mem _ m))
theorem lay_t3 : ∀ ts : List T3, PyData.canLayAll0 (ts.map dT3) = true
  | [] => rfl
  | t :: ts => by
    show (PyData.canLay0 (dT3 t) && PyData.canLayAll0 (ts.map dT3)) = true
    rw [lay_t3 ts]
    rfl
theorem depth_t3 : ∀ ts : List T3, PyData.depthAll (ts.map dT3) ≤ 3
  | [] => by decide
  | t :: ts => by
    have := depth_t3 ts
    show max (PyData.depth (dT3 t)) (PyData.depthAll (ts.map dT3)) ≤ 3
    have e : PyData.depth (dT3 t) = 1 := rfl
    omega
theorem shaped_t3 (ts : List T3) : SeqAt.shaped (.tuple (ts.map dT3)) = true := by
  unfold SeqAt.shaped
  have a : PyData.canLay0 (.tuple (ts.map dT3)) = true := lay_t3 ts
  have b : PyData.depth (.tuple (ts.map dT3)) ≤ 64 := by
    have := depth_t3 ts
    show PyData.depthAll (ts.map dT3) + 1 ≤ 64
    omega
  rw [a, decide_eq_true b]
  rfl
end CB
/-! try with several clauses, each with a name or without -/
namespace CB
open PySem PySem.Spec PyProof.Rows L2
abbrev Cl := Value × Option Nat × (Addr → Value → Option Addr → TS)
def endA (i : Option Nat) (D : Ends) : Ends := match i with
  | none => D
  | some i => { nx := fun p q => D.nx (p.set i none) q, rt := D.rt, bk := fun p q => D.bk (p.set i none) q, ct := fun p q => D.ct (p.set i none) q }
def setA (i : Option Nat) (p : L2.St) (a : Addr) : L2.St := match i with
  | none => p
  | some i => p.set i (some (.ref a))
def wA (K : PySem.W.Frag) (Wo : WX) (D : Ends) : List Cl → WX
  | [] => Wo
  | (c, i, ts) :: r => fun cls d p H => ∃ b, PySem.W.exmOne K cls c = some b ∧ (b = true → ∀ a, H a = none → ts a cls d (endA i D) (setA i p a) H) ∧ (b = false → wA K Wo D r cls d p H)
/-- the clauses of the text -/
inductive HdA (X : Cx) : List ExceptHandler → List Cl → Prop
  | nil : HdA X [] []
  | bare {x : Str} {c : Value} {ts : Addr → Value → Option Addr → TS} {b1 : Stmt} {su : List Stmt} {np pp : Pos} {hs : List ExceptHandler} {l : List Cl} (hc : Names X x c)
      (hw : ∀ (a : Addr) (o : Obj) (cls : Value) (d : Option Addr) (pn : List (Addr × Obj)), Zc cls d o → (∃ vs, o.data = .fields vs) → PSs (X.suite a ((a, o) :: pn)) (b1 :: su) (ts a cls d)) (r : HdA X hs l) :
      HdA X (.ExceptHandler (some (.Name x np)) none (b1 :: su) pp :: hs) ((c, none, ts) :: l)
  | named {x n : Str} {c : Value} {i : Nat} {ts : Addr → Value → Option Addr → TS} {b1 : Stmt} {su : List Stmt} {np pp : Pos} {hs : List ExceptHandler} {l : List Cl} (hc : Names X x c) (hi : X.N[i]? = some n) (hn : X.env.kindOf n = some .local)
      (hw : ∀ (a : Addr) (o : Obj) (cls : Value) (d : Option Addr) (pn : List (Addr × Obj)), Zc cls d o → (∃ vs, o.data = .fields vs) → PSs (X.suite a ((a, o) :: pn)) (b1 :: su) (ts a cls d)) (r : HdA X hs l) :
      HdA X (.ExceptHandler (some (.Name x np)) (some n) (b1 :: su) pp :: hs) ((c, some i, ts) :: l)
section
variable {X : Cx} {body : List Stmt} {h1 : ExceptHandler} {hs : List ExceptHandler} {l : List Cl} {pos : Pos} {tb : WX → TS} {Wo : WX}
theorem ps_tryA (hst : X.stack = X.env :: X.outer) (hf : X.env.frame = some X.env.locals) (hN : X.N.Nodup) (tk : Takes X Wo)
    (hb : ∀ (W : WX) (pn : List (Addr × Obj)) (xe : Value → Shared → Prop), Takes (X.tr pn xe) W → PassesOwn (model X.prog X.w) X.A X.env xe → PSs (X.tr pn xe) body (tb W))
    (hh : HdA X (h1 :: hs) l) : PS X (.Try body (h1 :: hs) [] [] pos) (fun D p H => tb (wA X.K Wo D l) D p H) := by
  refine ⟨fun pins s p H D I hgo => ?_⟩
  have ok := I.ok
  have frm : X.A.frames = some (X.env :: X.outer) := by rw [ok.frames, hst]
  refine wpAny_Try_except (wpAny_mono ((hb (wA X.K Wo D l) (X.pn ++ pins) (fun e s₁ => wpAny (model X.prog X.w) X.A (noteFrame e X.env) (fun _ s₂ => wpAny (model X.prog X.w) X.A (setFlight e none) (fun _ s₃ => wpAny (model X.prog X.w) X.A (handleBy e X.env (h1 :: hs)) (SP X pins D) X.xe s₃) X.xe s₂) X.xe s₁)
    (fun u s' xx => ?_) PassesOwn.looking).run [] s p H D (I.toTry _) hgo) (fun f s1 hsp => ?_) (fun e s1 he => he))
  · obtain ⟨a, B, sI, pins', p', H', cls, d, rfl, Jt, nb, up, sky, na, os, ag, wish⟩ := xx
    have J : Inv X pins p' H' sI := Jt.ofTry ok
    have skyB : Sky B (X.env :: X.outer) a (Zc cls d) X.env.locals s'.heap := by rw [← hst]; exact sky
    show wpAny (model X.prog X.w) X.A (noteFrame (.ref a) X.env) _ _ _
    refine Sky.land Zc.steady frm hf skyB fun hp3 fl3 up3 => ?_
    have J3 : Inv X pins p' H' { s' with heap := hp3 } := J.landed nb fl3.1 (up.trans up3) os ag
    obtain ⟨o3, v3, g3, z3, d3⟩ := fl3.there
    have out : ∀ {hp : Heap} {o : Obj} {vs : Array Value}, hp.FunFrames B (X.env :: X.outer) → hp.get? a = some o → o.data = .fields vs → a ∉ frs (X.env :: X.outer) := fun {hp o vs} ff e dd hm => by
      obtain ⟨_, o', e', hnf⟩ := ff.mem hm; rw [e] at e'; cases e'; exact hnf _ dd
    have nfr := out fl3.2.2.1 g3 d3
    have nL : a ≠ X.env.locals := fun z => nfr (List.mem_filterMap.mpr ⟨X.env, List.mem_cons_self, by rw [hf, z]⟩)
    have nF : a ∉ X.fs := fun hm => by obtain ⟨e, he, q⟩ := List.mem_filterMap.mp hm; exact nfr (List.mem_filterMap.mpr ⟨e, List.mem_cons_of_mem _ he, q⟩)
    have S3 := J3.suite g3 d3 na nL nF
    have LT : PySem.W.Looks (model X.prog X.w) hp3 (typeOf (.ref a)) cls := fun A Q E s k q => wpAny_typeOf_ref (k _ _ g3) (by rw [z3.1]; exact q)
    have test : ∀ {x : Str} {np : Pos} {c : Value} (hc : Names X x c) {Q : Value → Shared → Prop} {E : Value → Shared → Prop}, Q c { s' with heap := hp3 } → wpAny (model X.prog X.w) (X.A.mark (some (.ref a))) (eval (.Name x np) X.env) Q E { s' with heap := hp3 } := fun {x np c} hc {Q E} q => by
      obtain ⟨hg, hdb, hm | ⟨hm, hv, hnn⟩⟩ := hc
      · exact ld_glob (X := X.suite a ((a, o3) :: (X.pn ++ pins))) S3 hg hm q hdb
      · exact ld_blt (X := X.suite a ((a, o3) :: (X.pn ++ pins))) S3 hg hm hv q hnn hdb
    have go : ∀ {hs' : List ExceptHandler} {l' : List Cl}, HdA X hs' l' → wA X.K Wo D l' cls d p' H' → wpAny (model X.prog X.w) X.A (handleBy (.ref a) X.env hs') (SP X pins D) X.xe { s' with heap := hp3 } := by
      intro hs' l' hk
      induction hk with
      | nil =>
        intro w
        refine wpAny_handleBy_nil ?_
        obtain ⟨k1, k2, k3, oe, vs, T, oT, ts', he, hz, hd, h1', hr⟩ := id fl3
        unfold PySem.passOn
        refine wpAny_bind (wpAny_field he hd h1' ?_)
        rw [if_neg (show ¬ ((Value.ref T == Value.none) = true) from by simp)]
        have fin : wpAny (model X.prog X.w) X.A (setFlight (.ref a) X.env.frame) (fun _ s4 => wpAny (model X.prog X.w) X.A (throw (.ref a) : Sem Flow) (SP X pins D) X.xe s4) X.xe { s' with heap := hp3 } := by
          rw [hf]
          refine HandSPX.setFlight_upZ fl3 fun h4 hh4 up4 => wpAny_throw (tk _ _ ?_)
          exact ⟨a, B, sI, pins, p', H', cls, d, rfl, J, nb, (up.trans up3).trans up4, .inr (.inr (by rw [hst]; exact hh4)), na, os, ag, w⟩
        first | exact wpAny_bind (wpAny_pure (wpAny_bind fin)) | exact wpAny_bind fin
      | @bare x c ts b1 su np pp hs2 l2 hc hw r ih =>
        intro w
        obtain ⟨b, hb1, hyes, hno⟩ := w
        refine wpAny_handleBy_cons (codeAny_handlers_test ?_) (by intro q; cases q)
        have LM := PySem.W.exm_one (M := model X.prog X.w) (J3.kIn) LT hb1
        refine test hc (LM.here ?_)
        cases b with
        | true =>
          refine codeAny_handlers_suite (HandSPX.lands_againZ fl3 fun h4 fl4 up4 => ?_)
          have J4 : Inv X pins p' H' { s' with heap := h4 } := J.landed nb fl4.1 ((up.trans up3).trans up4) os ag
          obtain ⟨o4, v4, g4, z4, d4⟩ := fl4.there
          have S4 := J4.suite g4 d4 na nL nF
          refine wpAny_mono ((hw a o4 cls d (X.pn ++ pins) z4 ⟨_, d4⟩).run [] _ _ H' _ S4 (hyes rfl a na)) (fun f s6 hsp => ?_) (fun _ _ z => False.elim z)
          cases f with
          | ret u => obtain ⟨v6, p6, H6, S6, r6, q6⟩ := hsp; exact ⟨_, _, _, S6.unsuite ok, r6, q6⟩
          | _ => obtain ⟨p6, H6, S6, q6⟩ := hsp; exact ⟨_, _, S6.unsuite ok, q6⟩
        | false => exact ih (hno rfl)
      | @named x n c i ts b1 su np pp hs2 l2 hc hi hn hw r ih =>
        intro w
        obtain ⟨b, hb1, hyes, hno⟩ := w
        refine wpAny_handleBy_cons (codeAny_handlers_test ?_) (by intro q; cases q)
        have LM := PySem.W.exm_one (M := model X.prog X.w) (J3.kIn) LT hb1
        refine test hc (LM.here ?_)
        cases b with
        | true =>
          refine codeAny_handlers_suite_as (HandSPX.lands_againZ fl3 fun h4 fl4 up4 => ?_)
          have J4 : Inv X pins p' H' { s' with heap := h4 } := J.landed nb fl4.1 ((up.trans up3).trans up4) os ag
          obtain ⟨o4, v4, g4, z4, d4⟩ := fl4.there
          have S4 := J4.suite g4 d4 na nL nF
          refine store_ok (X := X.suite a ((a, o4) :: (X.pn ++ pins))) (v := .ref a) S4 hN hi (.inl hn) rfl (fun s5 S5 => ?_) (.inr hn)
          refine wpAny_mono ((hw a o4 cls d (X.pn ++ pins) z4 ⟨_, d4⟩).run [] s5 _ H' _ S5 (hyes rfl a na)) (fun f s6 hsp => ?_) (fun _ _ z => False.elim z)
          have gone : ∀ {p6 : L2.St} {H6 : Hp} {Q : Shared → Prop}, Inv (X.suite a ((a, o4) :: (X.pn ++ pins))) [] p6 H6 s6 → (∀ s7, Inv X pins (p6.set i none) H6 s7 → Q s7) →
              wpAny (model X.prog X.w) X.A (do bindName X.env n .none; unbindBehindTheSuite X.env n pp) (fun _ s7 => Q s7) X.xe s6 := fun {p6 H6 Q} S6 hq => gone_ok (S6.unsuite ok) hN hi hn hq
          cases f with
          | ret u => obtain ⟨v6, p6, H6, S6, r6, q6⟩ := hsp; exact gone S6 fun s7 J7 => ⟨_, _, _, J7, r6, q6⟩
          | next => obtain ⟨p6, H6, S6, q6⟩ := hsp; exact gone S6 fun s7 J7 => ⟨_, _, J7, q6⟩
          | brk => obtain ⟨p6, H6, S6, q6⟩ := hsp; exact gone S6 fun s7 J7 => ⟨_, _, J7, q6⟩
          | cont => obtain ⟨p6, H6, S6, q6⟩ := hsp; exact gone S6 fun s7 J7 => ⟨_, _, J7, q6⟩
        | false => exact ih (hno rfl)
    exact go hh wish
  · cases f with
    | ret u => obtain ⟨v, p', H', J', r, q⟩ := hsp; exact ⟨v, p', H', J'.ofTry ok, r, q⟩
    | next => obtain ⟨p', H', J', q⟩ := hsp; exact wpAny_execs_nil ⟨p', H', J'.ofTry ok, q⟩
    | brk => obtain ⟨p', H', J', q⟩ := hsp; exact ⟨p', H', J'.ofTry ok, q⟩
    | cont => obtain ⟨p', H', J', q⟩ := hsp; exact ⟨p', H', J'.ofTry ok, q⟩
end
end CB
/-! the program's errors: Malformed (no own __init__), Refused (with its reason) -/
namespace CB
open PySem PySem.Spec PyProof.Rows L2
structure CalX (P : Program) (w : World) (K : PySem.W.Frag) (mg : Str → Option Value) (base : Heap) (x : Str) (k : Nat) (ps : List Str) (sp : Sp) : Prop where
  ok : ∃ f fd, FnOk P w K mg base (L2.CX P w) k f fd ps sp ∧ mg x = some (.ref f) ∧ PySem.W.keepIn K (.ref f) = true ∧ Binds K fd ps []
section
variable {P : Program} {w : World} {K : PySem.W.Frag} {mg : Str → Option Value} {base : Heap}
theorem Dn.calX {x : Str} {st : Stmt} {N ps : List Str} {k : Nat} {sp : Sp} (D : Dn K mg x st ps) (S : FnScope N ps (defScope st)) (len : ∀ vs H Q E, sp vs H Q E → vs.length = ps.length)
    (hbody : ∀ (f : Addr) (cdv : Value) (A : Around) (outer : List Env) (s : Shared) (H : Hp) (vs : List V) (Q : VK) (E : XK), Room k (A.deeper (envOfC x (defScope st) s.heap.objs.size f cdv)) → sp vs H Q E →
      ∃ t, PSs (cxOf (L2.CX P w) P w K mg base N x (defScope st) f cdv A outer s H E) (defBody st) t ∧ t { nx := fun _ H' => Q .non H', rt := Q } (start N vs) H) : CalX P w K mg base x (k + 1) ps sp := by
  obtain ⟨f, fd, F, hm, hb⟩ := D.ok
  exact ⟨f, fd, F.okX S len fun cdv A outer s H vs Q E hr h => hbody f cdv A outer s H vs Q E hr h, hm, F.kp, hb⟩
end
section
variable {X : Cx} {k : Nat} {ps : List Str} {sp : Sp} {x : Str} {p pos : Pos} {e : Expr} {es : List Expr} {t : TA} {W : WX}
/-- a call that may raise, W what is wished of what it raises -/
theorem pe_calS (C : CalX X.prog X.w X.K X.mg X.base x k ps sp) (tk : Takes X W) (hr : Room k X.A) (hg : Gl X x) (ha : PA X (e :: es) t) (hdb : (x == ("__debug__" : Str)) = false := by decide)
    (he : starEach (e :: es) X.env = (false, eval e X.env) :: starEach es X.env := by rfl) (hpl : (backTo pos (starEach es X.env)).any (·.1) = false := by rfl) : PE X (.Call (.Name x p) (e :: es) [] pos) (tCallS sp (WE W) t) := by
  obtain ⟨f, fd, F, hm, hk, hb⟩ := C.ok
  exact pe_callS F hr hg hm hk hb (fun σ => passAt tk σ) ha hdb he hpl
end
abbrev veB : List Value := [.type "ValueError", .type "Exception", .type "BaseException", .type "object"]
structure ErrM (K : PySem.W.Frag) (mg : Str → Option Value) (C : Addr) : Prop where
  g : mg "Malformed" = some (.ref C)
  x : PySem.W.excIn K C veB "ValueError.__new__" = true
  k : PySem.W.keepIn K (.ref C) = true
  b : PySem.W.subIn K (.ref C) (.type "BaseException") = some true
  t : PySem.W.typeIn K (.ref C) = some (.type "type")
  mm : PySem.W.exmOne K (.ref C) (.ref C) = some true
structure ErrO (K : PySem.W.Frag) (mg : Str → Option Value) (C : Addr) : Prop where
  m : ErrM K mg C
structure ErrR (K : PySem.W.Frag) (mg : Str → Option Value) (M C f : Addr) : Prop where
  g : mg "Refused" = some (.ref C)
  ox : OexC K C
  i : PySem.W.findIn K (.ref C) "__init__" = some (some (.ref f))
  t : PySem.W.typeIn K (.ref f) = some (.type "function")
  n : PySem.W.findIn K (.ref C) "reason" = some none
  xf : XfC K C
  rm : PySem.W.exmOne K (.ref C) (.ref M) = some false
  rr : PySem.W.exmOne K (.ref C) (.ref C) = some true
/-- Refused.__init__(self, reason) -/
def spRI (K : PySem.W.Frag) : Sp := fun vs H Q _ => ∃ (a C : Addr) (v : V), vs = [.ref a, v] ∧ OexC K C ∧ PySem.W.findIn K (.ref C) "reason" = some none ∧ H a = some (exo a C none) ∧
  ∀ dx, H dx = none → dx ≠ a → Q .non (upd (upd H dx (exd dx [("reason", v)])) a (exo a C (some dx)))
structure ErrI (P : Program) (w : World) (K : PySem.W.Frag) (mg : Str → Option Value) (base : Heap) (M C : Addr) : Prop where
  m : ErrM K mg M
  r : ∃ f fd, ErrR K mg M C f ∧ FnOk P w K mg base CX0 1 f fd ["self", "reason"] (spRI K) ∧ Binds K fd ["self", "reason"] []
section
variable {P : Program} {w : World} {K : PySem.W.Frag} {mg : Str → Option Value} {base : Heap} {M C : Addr}
end
/-- raise Malformed('..') -/
theorem ps_mal {X : Cx} {W : WX} {M : Addr} {m : Str} {j : Nat} {p p2 pos pp : Pos} (E : ErrM X.K X.mg M) (hc : X.calm = true) (tk : Takes X W) (hg : Gl X "Malformed") : PS X (.Raise (some (.Call (.Name "Malformed" p) [.Constant (.str m) j p2] [] pos)) none pp) (fun _ σ H => W (.ref M) none σ H) :=
  ps_raise hc tk (pmk_own PySem.F.excBase_ValueError E.x E.g E.k (raises_own E.b E.t) hg)
/-- raise Refused('..') -/
theorem ps_ref {X : Cx} {W : WX} {M C : Addr} {m : Str} {j : Nat} {p p2 pos pp : Pos} (E : ErrI X.prog X.w X.K X.mg X.base M C) (hc : X.calm = true) (tk : Takes X W) (hr : Room 2 X.A) (hg : Gl X "Refused") (hs : starEach [Expr.Constant (.str m) j p2] X.env = (false, eval (Expr.Constant (.str m) j p2) X.env) :: starEach [] X.env := by rfl)
    (hpl : (backTo pos (starEach [] X.env)).any (·.1) = false := by rfl) :
    PS X (.Raise (some (.Call (.Name "Refused" p) [.Constant (.str m) j p2] [] pos)) none pp) (fun _ σ H => ∀ d H', Same H H' → H d = none → H' d = some (.xd [("reason", .str m)]) → W (.ref C) (some d) σ H') := by
  obtain ⟨f, fd, R, F, b⟩ := E.r
  refine ⟨fun pins s σ H D I h => ?_⟩
  refine (ps_raise hc tk (pmk_oex R.ox R.i R.t F hr b .nil pass0 hg R.g (pa_cons pe_str pa_nil hs) rfl hs hpl)).run pins s σ H D I ?_
  show ([V.str m].length ≤ 1000 ∧ _)
  refine ⟨by show 1 ≤ 1000; decide, fun a na => ⟨a, C, .str m, rfl, R.ox, R.n, upd_same, fun dx ndx ne => ⟨rfl, dx, [("reason", .str m)], upd_same, ?_, ?_, ?_⟩⟩⟩
  · rw [upd_ne ne, upd_same]
  · rw [upd_ne ne] at ndx
    exact ndx
  · rw [upd_ne ne] at ndx
    refine h dx _ (fun b o e => ?_) ndx upd_same
    have hbd : b ≠ dx := ne_of_none e ndx
    have hba : b ≠ a := ne_of_none e na
    rw [upd_ne hbd, del_ne hba, upd_ne hba, upd_ne hbd, upd_ne hba]
    exact e
end CB
namespace CB
open PySem PySem.Spec PyProof.Rows L2
theorem exm_b {K : PySem.W.Frag} {S C : Addr} {b : Bool} (h1 : PySem.W.subIn K (.ref C) (.type "BaseException") = some true) (h2 : PySem.W.isClsIn K C = true) (h3 : PySem.W.typeIn K (.ref C) = some (.type "type")) (h4 : PySem.W.subIn K (.ref S) (.ref C) = some b) :
    PySem.W.exmOne K (.ref S) (.ref C) = some b := by
  unfold PySem.W.exmOne
  rw [if_pos (by rw [h1] <;> rfl)]
  show (if ((PySem.W.clsIn K C).isSome && PySem.W.typeIn K (.ref C) == some (.type "type")) = true then PySem.W.subIn K (.ref S) (.ref C) else none) = some b
  have h5 : (PySem.W.clsIn K C).isSome = true := h2
  rw [h5, h3, if_pos (by rfl)]
  exact h4
theorem dn_mk {K : PySem.W.Frag} {h : Heap} {mg : Str → Option Value} {x : Str} {st : Stmt} {ps : List Str} {f : Addr} {oc : Value} {od an : Option Addr} {osl : Array (Option Value)} {kV doc pm cdv ct : Value} (X : K.In h) (G : h.Ns mainGlobals mg)
    (a : PySem.W.nsIn K mainGlobals x = some (some (.ref f))) (l : K.lookup f = some ⟨oc, od, .func (PySem.W.fnOf x x (defArgs st) (defBody st) (defScope st) .none kV doc pm an cdv ct), osl⟩) (c : PySem.W.codeIn K cdv x = true) (k : PySem.W.keepIn K (.ref f) = true)
    (hb : ∀ (kV doc pm : Value) (an : Option Addr) (cdv ct : Value) (us : List Value), us.length = ps.length → bindArgs (PySem.W.fnOf x x (defArgs st) (defBody st) (defScope st) .none kV doc pm an cdv ct) ⟨us, []⟩ = pure (ps.zip us)) : Dn K mg x st ps :=
  ⟨f, _, fun_mk l c k, PySem.W.mg_of X G a, (fun_mk l c k).binds hb⟩
end CB
/-! sorted of a list of pairs of pairs of ints -/
namespace CB
open PySem PySem.Spec PyProof.Rows Srt SrtO L2
abbrev M4 := (Int × Int) × (Int × Int)
def dM (m : M4) : PyData := .tuple [.tuple [.int m.1.1, .int m.1.2], .tuple [.int m.2.1, .int m.2.2]]
def lexM (p q : M4) : Bool := if p.1 = q.1 then lexB p.2 q.2 else lexB p.1 q.1
theorem alike_M (p q : M4) : PySem.W.alike (dM p) (dM q) = true := by
  simp [dM, PySem.W.alike, PySem.W.alikeAll]
theorem eqv_pp (a b c d : Int) : PyData.eqv (.tuple [.int a, .int b]) (.tuple [.int c, .int d]) = decide ((a, b) = (c, d)) := by
  have e : PyData.eqv (.tuple [.int a, .int b]) (.tuple [.int c, .int d]) = ((a == c) && ((b == d) && true)) := rfl
  rw [e]
  by_cases h1 : a = c
  · by_cases h2 : b = d
    · simp [h1, h2]
    · simp [h2]
  · simp [h1]
theorem lt_pp (p q : Int × Int) : PySem.W.dataLt (.tuple [.int p.1, .int p.2]) (.tuple [.int q.1, .int q.2]) = lexB p q := by
  rw [PySem.W.dataLt_ii]
  have h := @lexB_iff p q
  cases hb : lexB p q with
  | true => exact decide_eq_true (h.mp hb)
  | false => exact decide_eq_false fun z => by rw [h.mpr z] at hb; cases hb
theorem lt_M (p q : M4) : PySem.W.dataLt (dM p) (dM q) = lexM p q := by
  unfold dM lexM
  rw [PySem.W.dataLt_pair (by simp [PySem.W.alike, PySem.W.alikeAll]) (by simp [PySem.W.alike, PySem.W.alikeAll]), eqv_pp, eqv_pp, lt_pp, lt_pp]
  by_cases h1 : p.1 = q.1
  · rw [if_pos (decide_eq_true h1), if_pos h1]
    by_cases h2 : p.2 = q.2
    · rw [if_pos (decide_eq_true h2), h2]
      symm
      cases hb : lexB q.2 q.2 with
      | false => rfl
      | true =>
        have := lexB_iff.mp hb
        omega
    · rw [if_neg (fun z => h2 (of_decide_eq_true z))]
  · rw [if_neg (fun z => h1 (of_decide_eq_true z)), if_neg h1]
theorem lexM_iff {p q : M4} : lexM p q = true ↔ (p.1.1 < q.1.1 ∨ (p.1.1 = q.1.1 ∧ (p.1.2 < q.1.2 ∨ (p.1.2 = q.1.2 ∧ (p.2.1 < q.2.1 ∨ (p.2.1 = q.2.1 ∧ p.2.2 < q.2.2)))))) := by
  obtain ⟨⟨a, b⟩, ⟨c, d⟩⟩ := p
  obtain ⟨⟨a', b'⟩, ⟨c', d'⟩⟩ := q
  unfold lexM
  by_cases e : (a, b) = (a', b')
  · rw [if_pos e, lexB_iff]
    have e1 : a = a' := congrArg Prod.fst e
    have e2 : b = b' := congrArg Prod.snd e
    simp only
    omega
  · rw [if_neg e, lexB_iff]
    have : ¬ (a = a' ∧ b = b') := fun z => e (by rw [z.1, z.2])
    simp only
    omega
theorem lexM_no {p q : M4} : lexM p q = false ↔ ¬ (p.1.1 < q.1.1 ∨ (p.1.1 = q.1.1 ∧ (p.1.2 < q.1.2 ∨ (p.1.2 = q.1.2 ∧ (p.2.1 < q.2.1 ∨ (p.2.1 = q.2.1 ∧ p.2.2 < q.2.2)))))) := by
  rw [← lexM_iff]
  cases lexM p q <;> simp
theorem lexM_eq {p q : M4} (h1 : lexM p q = false) (h2 : lexM q p = false) : p = q := by
  have a := lexM_no.mp h1
  have b := lexM_no.mp h2
  obtain ⟨⟨p1, p2⟩, ⟨p3, p4⟩⟩ := p
  obtain ⟨⟨q1, q2⟩, ⟨q3, q4⟩⟩ := q
  simp only at a b
  have e1 : p1 = q1 := by omega
  have e2 : p2 = q2 := by omega
  have e3 : p3 = q3 := by omega
  have e4 : p4 = q4 := by omega
  rw [e1, e2, e3, e4]
theorem srtM_uniq {l m : List M4} (h1 : l.Pairwise (fun p q => lexM q p = false)) (h2 : m.Pairwise (fun p q => lexM q p = false)) (h : l.Perm m) : l = m :=
  List.Perm.eq_of_pairwise (le := fun p q => lexM q p = false) (fun a b _ _ x y => lexM_eq y x) h1 h2 h
/-- x is, in H, the tuple m of tuples -/
def IsM (H : Hp) (x : V) (m : M4) : Prop := ∃ r r1 r2, x = V.ref r ∧ H r = some (.tup [.ref r1, .ref r2]) ∧ H r1 = some (.tup [.int m.1.1, .int m.1.2]) ∧ H r2 = some (.tup [.int m.2.1, .int m.2.2])
theorem IsM.fn {H : Hp} {x : V} {m m' : M4} (h : IsM H x m) (h' : IsM H x m') : m = m' := by
  obtain ⟨r, r1, r2, rfl, e, e1, e2⟩ := h
  obtain ⟨_, _, _, q, f, f1, f2⟩ := h'
  cases q
  rw [e] at f
  cases f
  rw [e1] at f1
  rw [e2] at f2
  obtain ⟨⟨a, b⟩, ⟨c, d⟩⟩ := m
  obtain ⟨⟨a', b'⟩, ⟨c', d'⟩⟩ := m'
  simp only [Option.some.injEq, HO.tup.injEq, List.cons.injEq, V.int.injEq, and_true] at f1 f2
  rw [f1.1, f1.2, f2.1, f2.2]
theorem IsM.same {H H' : Hp} {x : V} {m : M4} (s : Same H H') (h : IsM H x m) : IsM H' x m := by
  obtain ⟨r, r1, r2, q, e, e1, e2⟩ := h
  exact ⟨r, r1, r2, q, s _ _ e, s _ _ e1, s _ _ e2⟩
open Classical in
noncomputable def kM (H : Hp) (x : V) : M4 := if h : ∃ m, IsM H x m then h.choose else ((0, 0), (0, 0))
theorem IsM.k {H : Hp} {x : V} {m : M4} (h : IsM H x m) : kM H x = m := by
  unfold kM
  rw [dif_pos ⟨m, h⟩]
  exact (Exists.choose_spec (⟨m, h⟩ : ∃ m, IsM H x m)).fn h
/-- the list of such tuples at the xs -/
def Mats (H : Hp) (xs : List V) (ms : List M4) : Prop := (∀ x ∈ xs, IsM H x (kM H x)) ∧ ms = xs.map (kM H)
theorem Mats.same {H H' : Hp} {xs : List V} {ms : List M4} (s : Same H H') (h : Mats H xs ms) : Mats H' xs ms := by
  obtain ⟨h1, rfl⟩ := h
  have e : ∀ x ∈ xs, kM H' x = kM H x := fun x m => ((h1 x m).same s).k
  exact ⟨fun x m => by rw [e x m]; exact (h1 x m).same s, List.map_congr_left fun x m => (e x m).symm⟩
theorem Mats.keep {H H' : Hp} {xs : List V} {ms : List M4} (s : ∀ r us, H r = some (.tup us) → H' r = some (.tup us)) (h : Mats H xs ms) : Mats H' xs ms := by
  obtain ⟨h1, rfl⟩ := h
  have g : ∀ x ∈ xs, IsM H' x (kM H x) := fun x m => by
    obtain ⟨r, r1, r2, q, e, e1, e2⟩ := h1 x m
    exact ⟨r, r1, r2, q, s _ _ e, s _ _ e1, s _ _ e2⟩
  exact ⟨fun x m => by rw [(g x m).k]; exact g x m, List.map_congr_left fun x m => ((g x m).k).symm⟩
theorem Mats.updL {H : Hp} {f : Addr} {l : List V} {o : HO} {xs : List V} {ms : List M4} (h : Mats H xs ms) (e : H f = some (.lst l)) : Mats (upd H f o) xs ms :=
  h.keep fun r us q => by rw [upd_ne (ne_of q e (by intro z; cases z))]; exact q
theorem Mats.updN {H : Hp} {f : Addr} {o : HO} {xs : List V} {ms : List M4} (h : Mats H xs ms) (e : H f = none) : Mats (upd H f o) xs ms := h.same (same_upd e)
theorem Mats.nil {H : Hp} : Mats H [] [] := ⟨fun x m => by simp at m, rfl⟩
theorem Mats.snoc {H : Hp} {xs : List V} {ms : List M4} {x : V} {m : M4} (h : Mats H xs ms) (e : IsM H x m) : Mats H (xs ++ [x]) (ms ++ [m]) := by
  obtain ⟨h1, rfl⟩ := h
  refine ⟨fun y hy => ?_, ?_⟩
  · rcases List.mem_append.mp hy with hy | hy
    · exact h1 y hy
    · rw [List.mem_singleton.mp hy, e.k]
      exact e
  · rw [List.map_append, List.map_singleton, e.k]
theorem Mats.get {H : Hp} {xs : List V} {ms : List M4} {i : Nat} {x : V} (h : Mats H xs ms) (e : xs[i]? = some x) : ∃ m, IsM H x m ∧ ms[i]? = some m := by
  obtain ⟨h1, rfl⟩ := h
  exact ⟨_, h1 x (List.mem_of_getElem? e), by rw [List.getElem?_map, e]; rfl⟩
theorem Mats.len {H : Hp} {xs : List V} {ms : List M4} (h : Mats H xs ms) : ms.length = xs.length := by
  rw [h.2, List.length_map]
theorem dp_M {K : PySem.W.Frag} {H : Hp} {x : V} {m : M4} (h : IsM H x m) : Dp K H x (dM m) := by
  obtain ⟨r, r1, r2, rfl, e, e1, e2⟩ := h
  exact .tup (SqT.of e) (.cons (.tup (SqT.of e1) (.cons (.int _) (.cons (.int _) .nil))) (.cons (.tup (SqT.of e2) (.cons (.int _) (.cons (.int _) .nil))) .nil))
theorem dp_Ms {K : PySem.W.Frag} {H : Hp} : ∀ {xs : List V} {ms : List M4}, Mats H xs ms → DpAll K H xs (ms.map dM) := fun {xs ms} h => by
  obtain ⟨h1, rfl⟩ := h
  induction xs with
  | nil => exact .nil
  | cons x xs ih => exact .cons (dp_M (h1 x List.mem_cons_self)) (ih fun y m => h1 y (List.mem_cons_of_mem _ m))
theorem lay_M : ∀ ms : List M4, PyData.canLayAll0 (ms.map dM) = true
  | [] => rfl
  | m :: ms => by
    show (PyData.canLay0 (dM m) && PyData.canLayAll0 (ms.map dM)) = true
    rw [lay_M ms]
    rfl
theorem depth_M : ∀ ms : List M4, PyData.depthAll (ms.map dM) ≤ 3
  | [] => by decide
  | m :: ms => by
    have := depth_M ms
    show max (PyData.depth (dM m)) (PyData.depthAll (ms.map dM)) ≤ 3
    have e : PyData.depth (dM m) = 2 := rfl
    omega
theorem shaped_M (ms : List M4) : SeqAt.shaped (.tuple (ms.map dM)) = true := by
  unfold SeqAt.shaped
  have a : PyData.canLay0 (.tuple (ms.map dM)) = true := lay_M ms
  have b : PyData.depth (.tuple (ms.map dM)) ≤ 64 := by
    have := depth_M ms
    show PyData.depthAll (ms.map dM) + 1 ≤ 64
    omega
  rw [a, decide_eq_true b]
  rfl
/-- sorted(xs), xs a list of pairs of pairs -/
def rSortedM (K : PySem.W.Frag) : List V → Hp → VK → Prop := fun vs H Q => ∃ (a : Addr) (xs : List V) (ms : List M4), vs = [V.ref a] ∧ SqL K H a xs ∧ Mats H xs ms ∧
  ∀ ys us p, Mats H ys us → us.Pairwise (fun p q => lexM q p = false) → us.Perm ms → H p = none → Q (.ref p) (upd H p (.lst ys))
theorem rd_sortedM {K : PySem.W.Frag} {vs : List V} {H : Hp} {Q : VK} : rSortedM K vs H Q = ∃ (a : Addr) (xs : List V) (ms : List M4), vs = [V.ref a] ∧ SqL K H a xs ∧ Mats H xs ms ∧
  ∀ ys us p, Mats H ys us → us.Pairwise (fun p q => lexM q p = false) → us.Perm ms → H p = none → Q (.ref p) (upd H p (.lst ys)) := rfl
section
variable {X : Cx}
theorem each_vals : ∀ {vs : List Value} {xs : List V}, Vals xs vs → PySem.W.EachIs (fun v x => RelV x v) vs xs
  | _, _, .nil => .nil
  | _, _, .cons r h => .cons r (each_vals h)
theorem vals_each : ∀ {vs : List Value} {xs : List V}, PySem.W.EachIs (fun v x => RelV x v) vs xs → Vals xs vs
  | _, _, .nil => .nil
  | _, _, .cons r h => .cons r (vals_each h)
theorem cr_sortedM (hu : X.A.units + 64 < cLine) : CallR X (.builtin "sorted") (rSortedM X.K) := by
  intro pins s σ H vs us Q I r h
  obtain ⟨a, xs, ms, rfl, hs, ⟨hx, rfl⟩, q⟩ := h
  obtain ⟨its, rv, hl, hz⟩ := I.list hs
  obtain ⟨u, rfl, ru⟩ := vals1 r
  obtain rfl : u = Value.ref a := ru
  have hlen := rv.length
  have e0 : PySem.W.EachIs (fun v x => RelV x v) its xs := each_vals rv
  have mem : PySem.W.EachIs (fun v (x : V) => ∃ as, Reads s.heap v (dM (kM H x)) as) its xs := by
    refine PySem.W.EachIs.of_zip (by omega) fun p hp => ?_
    exact Dp.reads I _ _ _ (dp_M (hx p.2 (List.of_mem_zip hp).2)) (e0.zip p hp)
  refine PySem.W.sorted_data (s := s) (β := V) (R := fun v x => RelV x v) (enc := fun x => dM (kM H x)) hl.isList e0 mem (PySem.W.AllAlike.of fun b b' => alike_M _ _) (PySem.W.Sortable.tuples fun b => ⟨_, _, rfl⟩) (by omega) (fun b _ => ?_) fun out ho eo => ?_
  · have : PyData.depth (dM (kM H b)) = 2 := rfl
    omega
  · have ep : (fun b b' : V => PySem.W.dataLe false (fun x => dM (kM H x)) b b') = fun b b' => !lexM (kM H b') (kM H b) := by
      rw [PySem.W.dataLe_eq]
      funext b b'
      show (!PySem.W.dataLt (dM (kM H b')) (dM (kM H b))) = _
      rw [lt_M]
    have hp : (xs.mergeSort (PySem.W.dataLe false (fun x => dM (kM H x)))).Perm xs := List.mergeSort_perm xs _
    have hT : ∀ x ∈ xs.mergeSort (PySem.W.dataLe false (fun x => dM (kM H x))), IsM H x (kM H x) := fun x m => hx x (hp.mem_iff.mp m)
    have hS : ((xs.mergeSort (PySem.W.dataLe false (fun x => dM (kM H x)))).map (kM H)).Pairwise (fun p q => lexM q p = false) := by
      rw [List.pairwise_map]
      have := List.pairwise_mergeSort (le := fun b b' : V => !lexM (kM H b') (kM H b)) (fun x y z h1 h2 => ?_) (fun x y => ?_) xs
      · rw [show PySem.W.dataLe false (fun x => dM (kM H x)) = fun b b' => !lexM (kM H b') (kM H b) from ep]
        exact this.imp fun h => by simpa using h
      · have a1 := lexM_no.mp (by simpa using h1 : lexM (kM H y) (kM H x) = false)
        have a2 := lexM_no.mp (by simpa using h2 : lexM (kM H z) (kM H y) = false)
        have : lexM (kM H z) (kM H x) = false := lexM_no.mpr (by omega)
        simp [this]
      · by_cases c : lexM (kM H y) (kM H x) = true
        · have a1 := lexM_iff.mp c
          have : lexM (kM H x) (kM H y) = false := lexM_no.mpr (by omega)
          simp [this]
        · simp [Bool.not_eq_true _ |>.mp c]
    obtain ⟨n, hn⟩ := sortedAll_at s.heap its (List.toArray out)
    refine ⟨.ref (s.heap.objs.size + 1), upd H (s.heap.objs.size + 1) (.lst (xs.mergeSort (PySem.W.dataLe false (fun x => dM (kM H x))))), I.laid (t' := s.toks) (fun b o e => sortedAll_old e) (Nat.le_succ _) ⟨?_, out, n, vals_each eo, hn⟩, rfl, q _ _ _ ⟨hT, rfl⟩ hS (hp.map (kM H)) (I.hok.fresh (Nat.le_succ _))⟩
    rw [hp.length_eq]
    omega
end
end CB
/-! a call of what an expression tells, one of several defs -/
namespace CB
open PySem PySem.Spec PyProof.Rows L2
structure HeldE (P : Program) (w : World) (K : PySem.W.Frag) (mg : Str → Option Value) (base : Heap) (kk : Nat) (f : Addr) (sp : Sp) : Prop where
  ex : ∃ (k : Nat) (fd : FuncData) (ps : List Str), k ≤ kk ∧ FnOk P w K mg base (L2.CX P w) k f fd ps sp ∧ PySem.W.keepIn K (.ref f) = true ∧ Binds K fd ps []
def tCallE (S : Addr → Sp → Prop) (E : L2.St → XK) (tf : TE) (t : TA) : TE := fun σ H Q => tf σ H fun y H1 => ∃ f sp, y = V.ref f ∧ S f sp ∧ t σ H1 fun vs H2 => sp vs H2 Q (E σ)
section
variable {X : Cx} {S : Addr → Sp → Prop} {kk : Nat} {p pos : Pos} {fe e : Expr} {es : List Expr} {tf : TE} {t : TA} {W : WX}
theorem pe_callE (A : ∀ f sp, S f sp → HeldE X.prog X.w X.K X.mg X.base kk f sp) (tk : Takes X W) (hr : Room kk X.A) (hf : PE X fe tf) (ha : PA X (e :: es) t)
    (ht : eval (.Call fe (e :: es) [] pos) X.env = (do callWith pos (← eval fe X.env) [] (backTo pos (starEach (e :: es) X.env)) (backToKw pos (keywordEach [] X.env))) := by rfl)
    (he : starEach (e :: es) X.env = (false, eval e X.env) :: starEach es X.env := by rfl) (hpl : (backTo pos (starEach es X.env)).any (·.1) = false := by rfl) : PE X (.Call fe (e :: es) [] pos) (tCallE S (WE W) tf t) := by
  refine ⟨fun pins s σ H Q I h => ?_⟩
  refine Call_ (thn (hf.run pins s σ H _ I h) fun u s1 ⟨y, H1, I1, ry, f, sp, ey, hS, q⟩ => ?_) ht
  subst ey
  obtain rfl : u = Value.ref f := ry
  obtain ⟨k, fd, ps, hk, F, hkeep, hb⟩ := (A f sp hS).ex
  refine PySem.W.callWith_K (h₀ := X.base) I1.ok.mod.kin hkeep (thn (ha.run pos pins s1 σ H1 _ I1 q) fun us s2 ⟨vs, H2, I2, r, q2⟩ => ⟨I2.kIn, ?_⟩) he hpl
  exact run_fnS F (hr.mono hk) hb (passAt tk σ) I2 r q2
end
theorem rd_callE {S : Addr → Sp → Prop} {E : L2.St → XK} {tf : TE} {t : TA} {σ : L2.St} {H : Hp} {Q : VK} : tCallE S E tf t σ H Q = tf σ H fun y H1 => ∃ f sp, y = V.ref f ∧ S f sp ∧ t σ H1 fun vs H2 => sp vs H2 Q (E σ) := rfl
theorem CalX.held {P : Program} {w : World} {K : PySem.W.Frag} {mg : Str → Option Value} {base : Heap} {x : Str} {k kk : Nat} {ps : List Str} {sp : Sp} (C : CalX P w K mg base x k ps sp) (h : k ≤ kk) : ∃ f, mg x = some (.ref f) ∧ HeldE P w K mg base kk f sp := by
  obtain ⟨f, fd, F, hm, hk, hb⟩ := C.ok
  exact ⟨f, hm, ⟨k, fd, ps, h, F, hk, hb⟩⟩
end CB
/-! dicts with int keys, list.pop: readings unfolded -/
namespace CB
open PySem PySem.Spec PyProof.Rows L2
section
variable {K : PySem.W.Frag} {σ : L2.St} {H : Hp} {Q : VK} {td ty tx tv to : TE} {D : Ends}
theorem rd_pop : tBM0 K "list" rPop to σ H Q = to σ H fun x H1 => tyV K "list" x H1 ∧ ∃ l xs y, x = .ref l ∧ H1 l = some (.lst xs) ∧ xs[xs.length - 1]? = some y ∧ Q y (upd H1 l (.lst xs.dropLast)) := by
  show (to σ H fun x H1 => tyV K "list" x H1 ∧ ∃ l xs y, x = V.ref l ∧ ([] : List V) = [] ∧ _) = _
  congr 1
  funext x H1
  simp
theorem rd_dnew : tDNewK σ H Q = ∀ p, H p = none → Q (.ref p) (upd H p (.dK [])) := rfl
theorem rd_dget : tDGet td ty σ H Q = td σ H fun x H1 => ty σ H1 fun y H2 => ∃ a v, x = .ref a ∧ DGet H2 a y (some v) ∧ Q v H2 := rfl
theorem rd_dget2 : tDGet2 td ty tx σ H Q = td σ H fun x H1 => ∃ a, x = .ref a ∧ IsD H1 a ∧ ty σ H1 fun y H2 => tx σ H2 fun z H3 => ∃ o, DGet H3 a y o ∧ Q (o.getD z) H3 := rfl
theorem rd_dput : sDPut td ty tv D σ H = tv σ H fun v H1 => td σ H1 fun x H2 => ty σ H2 fun y H3 => ∃ a H4, x = .ref a ∧ DPut H3 a y v H4 ∧ D.nx σ H4 := rfl
end
/-- a dict of ints by a list of pairs -/
def dI (l : List (Nat × Nat)) : List (Key × V) := l.map fun q => (Sum.inl (q.1 : Int), V.int (q.2 : Int))
def getC (l : List (Nat × Nat)) (p : Nat) : Option Nat := (l.find? fun q => decide (q.1 = p)).map (·.2)
theorem val_dI (l : List (Nat × Nat)) (p : Nat) : valV (dI l) (Sum.inl (p : Int)) = (getC l p).map fun c : Nat => V.int (c : Int) := by
  unfold valV dI getC
  induction l with
  | nil => rfl
  | cons q l ih =>
    rw [List.map_cons, List.find?_cons, List.find?_cons]
    have e : decide ((Sum.inl (q.1 : Int) : Key) = Sum.inl (p : Int)) = decide (q.1 = p) := by
      by_cases c : q.1 = p
      · rw [decide_eq_true c, decide_eq_true (by rw [c])]
      · rw [decide_eq_false c, decide_eq_false (fun z => c (by have := Sum.inl.inj z; omega))]
    show Option.map _ (match decide ((Sum.inl (q.1 : Int) : Key) = Sum.inl (p : Int)) with | true => _ | false => _) = _
    rw [e]
    cases decide (q.1 = p) with
    | true => rfl
    | false => exact ih
/-- one more of p -/
def bumpC (l : List (Nat × Nat)) (p c : Nat) : List (Nat × Nat) := if (l.any fun q => decide (q.1 = p)) = true then l.map (fun q => if q.1 = p then (q.1, c) else q) else l ++ [(p, c)]
theorem put_dI (l : List (Nat × Nat)) (p c : Nat) : putK (dI l) (Sum.inl (p : Int)) (V.int (c : Int)) = dI (bumpC l p c) := by
  have e : ∀ n : Nat, decide ((Sum.inl (n : Int) : Key) = Sum.inl (p : Int)) = decide (n = p) := fun n => by
    by_cases c : n = p
    · rw [decide_eq_true c, decide_eq_true (by rw [c])]
    · rw [decide_eq_false c, decide_eq_false (fun z => c (by have := Sum.inl.inj z; omega))]
  have ea : (dI l).any (fun kv => decide (kv.1 = (Sum.inl (p : Int) : Key))) = l.any fun q => decide (q.1 = p) := by
    unfold dI
    rw [List.any_map]
    congr 1
    funext q
    exact e q.1
  unfold putK bumpC
  rw [ea]
  by_cases h : (l.any fun q => decide (q.1 = p)) = true
  · rw [if_pos h, if_pos h]
    unfold dI
    rw [List.map_map, List.map_map]
    refine List.map_congr_left fun q _ => ?_
    show (if (Sum.inl (q.1 : Int) : Key) = Sum.inl (p : Int) then _ else _) = _
    by_cases c : q.1 = p
    · rw [if_pos (by rw [c])]
      show _ = (fun q : Nat × Nat => ((Sum.inl (q.1 : Int) : Key), V.int (q.2 : Int))) (if q.1 = p then _ else _)
      rw [if_pos c]
    · rw [if_neg (fun z => c (by have := Sum.inl.inj z; omega))]
      show _ = (fun q : Nat × Nat => ((Sum.inl (q.1 : Int) : Key), V.int (q.2 : Int))) (if q.1 = p then _ else _)
      rw [if_neg c]
  · rw [if_neg h, if_neg h]
    unfold dI
    rw [List.map_append]
    rfl
theorem dget_I {H : Hp} {a : Addr} {l : List (Nat × Nat)} {p : Nat} (e : H a = some (.dK (dI l))) : DGet H a (.int (p : Int)) ((getC l p).map fun c : Nat => V.int (c : Int)) := by
  have := DGet.k (k := Sum.inl (p : Int)) e
  rw [val_dI] at this
  exact this
theorem dput_I {H : Hp} {a : Addr} {l : List (Nat × Nat)} {p c : Nat} (e : H a = some (.dK (dI l))) (hl : l.length < sizeLine) : DPut H a (.int (p : Int)) (.int (c : Int)) (upd H a (.dK (dI (bumpC l p c)))) := by
  have := DPut.k (k := Sum.inl (p : Int)) (v := .int (c : Int)) e (by unfold dI; rw [List.length_map]; exact hl)
  rw [put_dI] at this
  exact this
end CB
/-! any of ints; enumerate of a tuple; a tuple times an int, few times -/
namespace CB
open PySem PySem.Spec PyProof.Rows L2
/-! ### any(ints), a list or a tuple -/
theorem vals_int : ∀ {ns : List Int} {us : List Value}, Vals (ns.map V.int) us → ∃ ts : List Tok, ts.length = ns.length ∧ us = List.zipWith Value.int ns ts
  | [], us, h => by
    rw [List.map_nil] at h
    cases h
    exact ⟨[], rfl, rfl⟩
  | n :: ns, us, h => by
    rw [List.map_cons] at h
    cases h with
    | cons r t =>
      obtain ⟨tk, rfl⟩ := r
      obtain ⟨ts, hl, rfl⟩ := vals_int t
      exact ⟨tk :: ts, by rw [List.length_cons, List.length_cons, hl], rfl⟩
theorem truth_ints {prog : Program} {w : World} {A : Around} {ns : List Int} {us : List Value} (h : Vals (ns.map V.int) us) :
    TruthOf prog w A (fun i v => us.toArray[i]? = some v) (fun i => ns.getD i 0 != 0) := by
  intro i v s Q E hv hq
  obtain ⟨ts, hl, rfl⟩ := vals_int h
  have hv : (List.zipWith Value.int ns ts)[i]? = some v := by simpa using hv
  rw [List.getElem?_zipWith] at hv
  cases hn : ns[i]? with
  | none => rw [hn] at hv; cases ht : ts[i]? <;> rw [ht] at hv <;> cases hv
  | some n =>
    cases ht : ts[i]? with
    | none => rw [hn, ht] at hv; cases hv
    | some t =>
      rw [hn, ht] at hv
      cases hv
      have e : ns.getD i 0 = n := by rw [List.getD_eq_getElem?_getD, hn]; rfl
      have hq : Q (ns.getD i 0 != 0) s := hq
      rw [e] at hq
      exact PySem.P.truthy_int hq
theorem any_ints : ∀ ns : List Int, (List.range ns.length).any (fun i => ns.getD i 0 != 0) = ns.any (· != 0)
  | [] => rfl
  | n :: ns => by
    rw [List.length_cons, List.range_succ_eq_map, List.any_cons, List.any_map, List.any_cons, ← any_ints ns]
    all_goals rfl
section
variable {X : Cx}
def rAnyI (K : PySem.W.Frag) : List V → Hp → VK → Prop := fun vs H Q => ∃ (a : Addr) (ns : List Int), vs = [V.ref a] ∧ (SqL K H a (ns.map V.int) ∨ SqT K H a (ns.map V.int)) ∧ Q (.bl (ns.any (· != 0))) H
theorem iter_tupA {prog : Program} {w : World} {A : Around} {E : Value → Shared → Prop} {s : Shared} {l : Addr} {items : Array Value} {Q : Value → Shared → Prop} (ht : s.heap.IsTuple l items)
    (h : ∀ s2 : Shared, s2 = { s with heap := s.heap.push { cls := .type "tuple_iterator", data := .fields #[.ref l, .int 0 0] } } → (s2.heap.IsTupleIter s.heap.objs.size l 0 ∧ s2.heap.IsTuple l items) → l ≠ s.heap.objs.size → Q (.ref s.heap.objs.size) s2) : wpAny (model prog w) A (pyIter (.ref l)) Q E s := by
  have lt : l < s.heap.objs.size := by
    obtain ⟨_, e, _⟩ := ht
    exact Heap.lt_size e
  exact wpAny_pyIter_tuple ht (h _ rfl ⟨⟨_, Heap.get?_push_size _ rfl, rfl, rfl⟩, ht.at fun o e => Heap.get?_push_of_some _ e⟩ (Nat.ne_of_lt lt))
theorem cr_anyI (hc : X.calm = true) : CallR X (.builtin "any") (rAnyI X.K) := by
  intro pins s σ H vs us Q I r h
  obtain ⟨a, ns, rfl, hs, q⟩ := h
  rw [Vals.ref1 r]
  have fin : ∀ {us : List Value} {h' : Heap} {tk : Nat} {o : Obj}, Vals (ns.map V.int) us → (∀ b ob, b ∉ [s.heap.objs.size] → (s.heap.push o).get? b = some ob → h'.get? b = some ob) →
      (∃ x H', Inv X pins σ H' { s with heap := h', toks := tk } ∧ RelV x (Value.bool ((List.range us.toArray.size).any fun i => ns.getD i 0 != 0)) ∧ Q x H') := fun {us h' tk o} rv hk => by
    refine ⟨.bl _, H, I.kept fun b ob eo => hk b ob (fun hm => ?_) (Heap.get?_push_of_some _ eo), ?_, q⟩
    · have hm := List.mem_singleton.mp hm
      subst hm
      exact absurd (Heap.lt_size eo) (Nat.lt_irrefl _)
    · have e : us.toArray.size = ns.length := by
        rw [List.size_toArray, ← rv.length, List.length_map]
      rw [e, any_ints]
      rfl
  rcases hs with hs | hs
  · obtain ⟨its, rv, hl, _⟩ := I.list hs
    refine call_any_walk (iter_any hl.isList fun s2 e2 st hne => ?_)
    subst e2
    exact ⟨_, _, _, _, _, _, _, rfl, Walks.list (A := X.A.in1) (I.ok.hd hc) _ a hne its.toArray, st, truth_ints rv, fun h' tk hk => fin rv hk⟩
  · obtain ⟨its, rv, hl, _⟩ := I.tuple hs
    refine call_any_walk (iter_tupA (show s.heap.IsTuple a its.toArray from hl) fun s2 e2 st hne => ?_)
    subst e2
    exact ⟨_, _, _, _, _, _, _, rfl, Walks.tuple (A := X.A.in1) (I.ok.hd hc) _ a hne its.toArray, st, truth_ints rv, fun h' tk hk => fin rv hk⟩
theorem rd_anyI {K : PySem.W.Frag} {vs : List V} {H : Hp} {Q : VK} : rAnyI K vs H Q = ∃ (a : Addr) (ns : List Int), vs = [V.ref a] ∧ (SqL K H a (ns.map V.int) ∨ SqT K H a (ns.map V.int)) ∧ Q (.bl (ns.any (· != 0))) H := rfl
end
/-! ### enumerate(t), t a tuple -/
theorem meets_enum1 {v : Value} {o : Obj} {Hh : Heap → Prop} (Bg : Begins v o Hh) : Meets (Builtin.«enumerate.__new__» ⟨[.type "enumerate", v], []⟩)
    (fun _ R s => Hh s.heap ∧ R (.ok (.ret (.ref (s.heap.push o).objs.size))) { s with heap := (s.heap.push o).push { cls := .type "enumerate", data := .fields #[.none, .bool false, .ref s.heap.objs.size, rawInt 0, .none, .none] } }) :=
  .of_wp fun prog w A R s h => by
    obtain ⟨hp, g, d, tk, os⟩ := s
    obtain ⟨hv, h⟩ := h
    have sube := sub_enumerate
    have go : ∀ {A1 : Around} {E1 : Value → Shared → Prop} {Q1 : Value → Shared → Prop}, Q1 (.ref hp.objs.size) ⟨hp.push o, g, d, tk, os⟩ → wpAny (model prog w) A1 (pyIter v) Q1 E1 ⟨hp, g, d, tk, os⟩ := fun q => Bg.iter prog w _ _ ⟨hp, g, d, tk, os⟩ _ hv q
    wp_walk using go
    refine wpAny_stack_any fun st => wpAny_pure ?_
    split
    · rename_i cl _ _ _ _ _
      cases (cl == Value.type "enumerate") <;> (wp_walk using go; exact ⟨_, rfl, h⟩)
    · wp_walk using go
      exact ⟨_, rfl, h⟩
section
variable {prog : Program} {w : World} {A : Around} {E : Value → Shared → Prop} {s : Shared}
theorem enum1_at {v : Value} {o : Obj} {Hh : Heap → Prop} {Q : Value → Shared → Prop} (Bg : Begins v o Hh) (hv : Hh s.heap)
    (h : ∀ h1, IsEnum h1 (s.heap.objs.size + 1) s.heap.objs.size 0 .none → h1.get? s.heap.objs.size = some o → (∀ b ob, s.heap.get? b = some ob → h1.get? b = some ob) → Q (.ref (s.heap.objs.size + 1)) { s with heap := h1 }) :
    wpAny (model prog w) A (call (.type "enumerate") [v]) Q E s := by
  have sz : (s.heap.push o).objs.size = s.heap.objs.size + 1 := Heap.size_push ..
  have en : IsEnum ((s.heap.push o).push { cls := .type "enumerate", data := .fields #[.none, .bool false, .ref s.heap.objs.size, rawInt 0, .none, .none] }) (s.heap.objs.size + 1) s.heap.objs.size 0 .none := by
    have z := Heap.get?_push_size (s.heap.push o) (o := { cls := .type "enumerate", data := .fields #[.none, .bool false, .ref s.heap.objs.size, rawInt 0, .none, .none] }) rfl
    rw [sz] at z
    exact z
  refine callType_new F.called_enumerate (by decide) (F.typeCall_enumerate_1 _) (F.newCall_enumerate_1 _) (fun ob => F.args_object_init_2 ob _) F.entry_enumerate_new (meets_enum1 Bg) ⟨hv, ?_⟩
  show _ ∧ _
  rw [sz]
  exact ⟨⟨_, en, rfl⟩, h _ en (Heap.get?_push_of_some _ (Heap.get?_push_size _ Bg.free)) fun b ob x => Heap.get?_push_of_some _ (Heap.get?_push_of_some _ x)⟩
end
def IteT (K : PySem.W.Frag) (a : Addr) : It :=
  ⟨fun i H => ∃ (xs : List V) (x : V), SqT K H a xs ∧ xs[i]? = some x, fun i H v H1 => ∃ T x, v = .ref T ∧ H T = none ∧ H1 = upd H T (.tup [.int (i : Nat), x]) ∧ ∀ xs, SqT K H a xs → xs[i]? = some x, fun i H => ∃ xs : List V, SqT K H a xs ∧ xs.length = i⟩
theorem turn_enumT {P : Program} {w : World} {K : PySem.W.Frag} {elts : List Expr} {kk : Nat} {tpos : Pos} (a e it : Addr) :
    Turn P w K (.Tuple elts kk tpos) (IteT K a) [e, it] e (fun i h => (∃ old, IsEnum h e it ((i : Nat) : Int) old) ∧ h.IsTupleIter it a i ∧ e ≠ it ∧ e ≠ a ∧ a ≠ it) where
  mem := List.mem_cons_self
  obj := fun i h st b hb => by
    obtain ⟨⟨old, en⟩, ⟨o, ho, _, hd⟩, _⟩ := st
    rcases (by simpa using hb : b = e ∨ b = it) with rfl | rfl
    · exact ⟨_, en, fun v q => nomatch q⟩
    · refine ⟨o, ho, fun v q => ?_⟩
      rw [hd] at q
      cases q
  keep := fun i h h1 st k => by
    obtain ⟨⟨old, en⟩, hi, ne⟩ := st
    exact ⟨⟨old, k e List.mem_cons_self _ en⟩, hi.at fun o q => k it (List.mem_cons_of_mem _ List.mem_cons_self) o q, ne⟩
  item := by
    intro X hP hw hK hc i pins s σ H E I hf st hg
    subst hP hw hK
    obtain ⟨⟨old, en⟩, hit, ne, nea, nai⟩ := st
    obtain ⟨xs, x, hq, hx⟩ := hg
    obtain ⟨its, rv, tp, _⟩ := I.tuple hq
    obtain ⟨u, hu, ru⟩ := rv.get hx
    have lte : e < s.heap.objs.size := Heap.lt_size en
    have lti : it < s.heap.objs.size := by
      obtain ⟨_, q, _⟩ := hit
      exact Heap.lt_size q
    have ilt : i < its.toArray.size := by
      rw [List.size_toArray]
      exact (List.getElem?_eq_some_iff.mp hu).1
    refine wpAny_pyNext_enum_itemD (Draws.tuple (A := X.A.in1) (I.ok.hd hc) it a nai its.toArray) en ⟨hit, show s.heap.IsTuple a its.toArray from tp⟩ ilt ne (by simp [ne, nea]) fun x1 h1 tk hx1 ho st1 hT sz hk => ?_
    have ex1 : x1 = u := by
      have z : its[i]? = some x1 := by simpa using hx1
      rw [hu] at z
      cases z
      rfl
    subst ex1
    refine ⟨_, rfl, wpAny_letOwnedTupleGo_enum (s := { s with heap := h1, toks := tk + 1 }) ho fun h2 en2 sb => ?_⟩
    have hT2 : h2.get? s.heap.objs.size = some { cls := .type "tuple", data := .seq #[.int i tk, x1] } := (sb.2 _ (Nat.ne_of_gt lte)).trans hT
    have fresh : ObjOk X.prog X.w (upd H s.heap.objs.size (.tup [.int (i : Nat), x])) h2 s.heap.objs.size (.tup [.int (i : Nat), x]) :=
      ⟨by show 2 ≤ sizeLine; decide, [.int i tk, x1], .cons ⟨_, rfl⟩ (.cons ru .nil), ⟨_, hT2, rfl, _, rfl⟩⟩
    have I2 : Inv X pins σ (upd H s.heap.objs.size (.tup [.int (i : Nat), x])) { s with heap := h2, toks := tk + 1 } :=
      I.turnedNew (ch := [e, it]) (fun b ob hb q => (sb.2 b (fun z => hb (by simp [z]))).trans (hk b ob (fun z => hb (by simp [z])) (fun z => hb (by simp [z])) q)) hf (Nat.le_refl _) fresh
    refine ⟨.ref s.heap.objs.size, _, I2, rfl, ⟨_, x, rfl, I.hok.fresh (Nat.le_refl _), rfl, fun ys hy => by rw [I.tuple_inj hy hq]; exact hx⟩, ⟨⟨x1, ?_⟩, st1.1.at fun o q => (sb.2 it (Ne.symm ne)).trans q, ne, nea, nai⟩, fun b hb => ?_⟩
    · rw [show ((i + 1 : Nat) : Int) = (i : Int) + 1 by omega]
      exact en2
    · have lt : b < s.heap.objs.size := by
        rcases (by simpa using hb : b = e ∨ b = it) with rfl | rfl
        · exact lte
        · exact lti
      rw [upd_ne (Nat.ne_of_lt lt)]
      exact (hf b hb).1
  done := by
    intro X hP hw hK hc i pins s σ H E I hf st hg
    subst hP hw hK
    obtain ⟨⟨old, en⟩, hit, ne, nea, nai⟩ := st
    obtain ⟨xs, hq, hx⟩ := hg
    obtain ⟨its, rv, tp, _⟩ := I.tuple hq
    obtain ⟨g0, g1, g2, g3, g4, g5⟩ := hf it (List.mem_cons_of_mem _ List.mem_cons_self)
    have sz : its.toArray.size = i := by
      have := rv.length
      rw [List.size_toArray]
      omega
    subst sz
    exact wpAny_pyNext_enum_endD (Draws.tuple (A := X.A.in1) (I.ok.hd hc) it a nai its.toArray) en ⟨hit, show s.heap.IsTuple a its.toArray from tp⟩ fun h1 eb => ⟨rfl, I.turned (t' := s.toks) (fun b o hb q => eb b o hb q) g0 g1 g3 g4 g5⟩
  self := fun A i s Q E st h => let ⟨⟨_, en⟩, _⟩ := st; wpAny_pyIter_enum en h
def iEnumT (K : PySem.W.Frag) (ta : TA) : TI := fun σ H R => ta σ H fun vs H1 => ∃ a xs, vs = [.ref a] ∧ SqT K H1 a xs ∧ R (IteT K a) H1
theorem pi_enumT {X : Cx} {e : Expr} {ta : TA} {p pos tpos : Pos} {elts : List Expr} {kk : Nat} (hg : Gl X "enumerate") (hm : X.mg "enumerate" = none) (ha : PA X [e] ta) (hs : starEach [e] X.env = [(false, eval e X.env)] := by rfl) :
    PI X (.Tuple elts kk tpos) (.Call (.Name "enumerate" p) [e] [] pos) (iEnumT X.K ta) := by
  refine ⟨fun pins s σ H R I h => ?_⟩
  refine Call_ (ld_blt I hg hm boot_enumerate (PyProof.Rows.callWith_type1 (thn (ha.run pos pins s σ H _ I h) fun us s1 ⟨vs, H1, I1, r1, a, xs, ex, hq, q⟩ => ?_) hs rfl))
  subst ex
  rw [Vals.ref1 r1]
  obtain ⟨its, rv, tp, _⟩ := I1.tuple hq
  have tp' : s1.heap.IsTuple a its.toArray := tp
  have lta : a < s1.heap.objs.size := by
    obtain ⟨_, z, _⟩ := tp'
    exact Heap.lt_size z
  refine enum1_at (begins_tuple a its.toArray) tp' fun h1 en hi hk => wpAny_pyIter_enum en ?_
  have I2 : Inv X pins σ H1 { s1 with heap := h1 } := I1.kept (t' := s1.toks) hk
  refine ⟨s1.heap.objs.size + 1, [s1.heap.objs.size + 1, s1.heap.objs.size], _, _, H1, rfl, I2, turn_enumT a (s1.heap.objs.size + 1) s1.heap.objs.size, ⟨⟨.none, en⟩, ⟨_, hi, rfl, rfl⟩, Nat.succ_ne_self _, Nat.ne_of_gt (Nat.lt_succ_of_lt lta), Nat.ne_of_lt lta⟩, fun b hb => ?_, q⟩
  have le : s1.heap.objs.size ≤ b := by
    rcases (by simpa using hb : b = s1.heap.objs.size + 1 ∨ b = s1.heap.objs.size) with rfl | rfl
    · exact Nat.le_succ _
    · exact Nat.le_refl _
  exact I1.fpOk le (I1.hok.fresh le)
/-- a loop over an enumerated tuple, by a word -/
def ForE (K : PySem.W.Frag) (a : Addr) := ForJ (IteT K a)
section
variable {K : PySem.W.Frag} {a : Addr} {xs : List V} {g : TG} {tb : TS} {D : Ends} {σ : L2.St} {H : Hp} {ta : TA} {tt : TT} {te : TE} {vs : List Nat} {Q : VK}
theorem rd_forE : tFor (iEnumT K ta) g tb D σ H = ta σ H fun us H1 => ∃ a xs, us = [.ref a] ∧ SqT K H1 a xs ∧ ForE K a g tb D σ H1 := rfl
theorem ForE.w (Pw : Nat → L2.St → Hp → Prop) (h0 : Pw 0 σ H) (hl : ∀ i σ H, i ≤ xs.length → Pw i σ H → SqT K H a xs)
    (hs : ∀ (i : Nat) (x : V) (T : Addr) σ H, xs[i]? = some x → Pw i σ H → H T = none → ∀ N : L2.St → Hp → Prop, (∀ σ' H', Pw (i + 1) σ' H' → N σ' H') → g (.ref T) σ (upd H T (.tup [.int (i : Nat), x])) fun σ2 H2 => tb { D with nx := N, ct := N, bk := D.nx } σ2 H2)
    (hd : ∀ σ H, Pw xs.length σ H → D.nx σ H) : ForE K a g tb D σ H := by
  refine ⟨fun i m σ H => m = xs.length - i ∧ i ≤ xs.length ∧ Pw i σ H, ⟨_, rfl, Nat.zero_le _, h0⟩, ?_⟩
  rintro i m σ H ⟨rfl, hi, p⟩
  have hq := hl i σ H hi p
  rcases Nat.lt_or_ge i xs.length with c | c
  · have hx : xs[i]? = some xs[i] := List.getElem?_eq_getElem c
    refine .inr ⟨⟨xs, _, hq, hx⟩, Pw (i + 1), fun σ' H' p' => ⟨xs.length - (i + 1), by omega, rfl, c, p'⟩, fun v H' y => ?_⟩
    obtain ⟨T, x, rfl, hT, rfl, f⟩ := y
    exact hs i x T σ H (f xs hq) p hT _ fun _ _ h => h
  · have e : i = xs.length := by omega
    subst e
    exact .inl ⟨⟨xs, hq, rfl⟩, hd σ H p⟩
/-- a comprehension over an enumerated tuple -/
def LcE (K : PySem.W.Frag) (a : Addr) := LcJ (IteT K a)
theorem rd_lcE : tLc (iEnumT K ta) g tt te vs σ H Q = ta σ H fun us H1 => ∃ a xs, us = [.ref a] ∧ SqT K H1 a xs ∧ LcE K a g tt te vs σ H1 Q := rfl
theorem LcE.w (Pw : Nat → Addr → List V → Hp → Prop) (h0 : ∀ D, H D = none → Pw 0 D [] (upd H D (.lst []))) (hl : ∀ D i ys H, i ≤ xs.length → Pw i D ys H → SqT K H a xs)
    (hs : ∀ D (i : Nat) x (T : Addr) ys H, xs[i]? = some x → Pw i D ys H → H T = none → ∀ N : Hp → Prop, (∀ ys' H', Pw (i + 1) D ys' H' → N H') → g (.ref T) (wipe σ vs) (upd H T (.tup [.int (i : Nat), x])) fun σ2 H2 => wipe σ2 vs = wipe σ vs ∧ tt σ2 H2 fun b H3 =>
      if b = true then te σ2 H3 fun y H4 => ∃ acc, H4 D = some (.lst acc) ∧ acc.length < sizeLine ∧ N (upd H4 D (.lst (acc ++ [y]))) else N H3) (hd : ∀ D ys H', H D = none → Pw xs.length D ys H' → Q (.ref D) H') : LcE K a g tt te vs σ H Q := by
  intro D hD
  refine ⟨fun i m H => m = xs.length - i ∧ i ≤ xs.length ∧ ∃ ys, Pw i D ys H, ⟨_, rfl, Nat.zero_le _, _, h0 D hD⟩, ?_⟩
  rintro i m H ⟨rfl, hi, ys, p⟩
  have hq := hl D i ys H hi p
  rcases Nat.lt_or_ge i xs.length with c | c
  · have hx : xs[i]? = some xs[i] := List.getElem?_eq_getElem c
    refine .inr ⟨⟨xs, _, hq, hx⟩, fun H' => ∃ ys, Pw (i + 1) D ys H', fun H' p' => ⟨xs.length - (i + 1), by omega, rfl, c, p'⟩, fun v H' y => ?_⟩
    obtain ⟨T, x, rfl, hT, rfl, f⟩ := y
    exact hs D i x T ys H (f xs hq) p hT _ fun ys' H' h => ⟨ys', h⟩
  · have e : i = xs.length := by omega
    subst e
    exact .inl ⟨⟨xs, hq, rfl⟩, hd D ys H hD p⟩
end
end CB
/-! the least of data alike, a list or a tuple; the place of a datum in a list -/
namespace CB
open PySem PySem.Spec PyProof.Rows L2
section
variable {X : Cx}
theorem un65 {k : Nat} {A : Around} (r : Room k A) : A.units + 65 < cLine := by
  have := r.un
  omega
theorem minD_in (x : PyData) : ∀ xs : List PyData, PySem.W.minD x xs ∈ x :: xs := by
  intro xs
  unfold PySem.W.minD
  induction xs generalizing x with
  | nil => exact List.mem_cons_self
  | cons y r ih =>
    rw [List.foldl_cons]
    have h := ih (if PySem.W.dataLt y x then y else x)
    rcases List.mem_cons.mp h with h | h
    · rw [h]
      split
      · exact List.mem_cons_of_mem _ List.mem_cons_self
      · exact List.mem_cons_self
    · exact List.mem_cons_of_mem _ (List.mem_cons_of_mem _ h)
theorem lay_of {x : PyData} : ∀ {xs : List PyData}, PyData.canLayAll0 xs = true → x ∈ xs → PyData.canLay0 x = true
  | [], _, h => by simp at h
  | y :: r, l, h => by
    have l' : (PyData.canLay0 y && PyData.canLayAll0 r) = true := l
    rw [Bool.and_eq_true] at l'
    rcases List.mem_cons.mp h with h | h
    · rw [h]; exact l'.1
    · exact lay_of l'.2 h
theorem read_one {h : Heap} {v : Value} {d d' : PyData} {as bs : List Addr} (r : Reads h v d as) (r' : Reads h v d' bs) (l : PyData.canLay0 d = true) (l' : PyData.canLay0 d' = true) : d = d' := by
  have e1 := SeqAt.readsAll_map [d] [v] _ (by show (PyData.canLay0 d && true) = true; rw [l]; rfl) (.cons r .nil)
  have e2 := SeqAt.readsAll_map [d'] [v] _ (by show (PyData.canLay0 d' && true) = true; rw [l']; rfl) (.cons r' .nil)
  rw [e1] at e2
  exact (List.cons.inj e2).1
/-- min(xs), xs a list or a tuple of data alike -/
def rMinD (K : PySem.W.Frag) : List V → Hp → VK → Prop := fun vs H Q => ∃ (a : Addr) (ys : List V) (x : PyData) (xs : List PyData), vs = [V.ref a] ∧ (SqL K H a ys ∨ SqT K H a ys) ∧ DpAll K H ys (x :: xs) ∧ PyData.canLayAll0 (x :: xs) = true ∧ PySem.W.AlikeAll (x :: xs) ∧ PyData.depthAll (x :: xs) ≤ 60 ∧
  ∀ (i : Nat) v, ys[i]? = some v → (x :: xs)[i]? = some (PySem.W.minD x xs) → Q v H
theorem cr_minD (hc : X.calm = true) (hu : X.A.units + 65 < cLine) : CallR X (.builtin "min") (rMinD X.K) := by
  intro pins s σ H vs us Q I r h
  obtain ⟨a, ys, x, xs, rfl, hs, hd, lay, al, dp, q⟩ := h
  rw [Vals.ref1 r]
  have fin : ∀ {its : List Value} {as : List Addr} {i : Nat} {v : Value} {h' : Heap} {tk : Nat} {bs : List Addr}, Vals ys its → ReadsAll s.heap its (x :: xs) as → its.toArray[i]? = some v → Reads h' v (PySem.W.minD x xs) bs → (∀ b o, s.heap.get? b = some o → h'.get? b = some o) →
      (∃ y H', Inv X pins σ H' { s with heap := h', toks := tk } ∧ RelV y v ∧ Q y H') := fun {its as i v h' tk bs} rv ra hv rd hk => by
    have hv' : its[i]? = some v := by simpa using hv
    obtain ⟨b2, r2, hi, _, _⟩ := PySem.W.readsAll_at ra i v hv'
    have hx : (x :: xs)[i]? = some ((x :: xs).getD i .none) := by
      rw [List.getD_eq_getElem?_getD, List.getElem?_eq_getElem hi]
      rfl
    have mem := List.mem_of_getElem? hx
    have e := read_one (Reads.keeps hk r2) rd (lay_of lay mem) (lay_of lay (minD_in x xs))
    have hl := rv.length
    have hil : i < its.length := by
      obtain ⟨z, _⟩ := List.getElem?_eq_some_iff.mp hv'
      exact z
    have hy : ys[i]? = some ys[i] := List.getElem?_eq_getElem (by omega)
    obtain ⟨u, hu, ru⟩ := rv.get hy
    rw [hu] at hv'
    cases hv'
    exact ⟨ys[i], H, I.kept hk, ru, q i _ hy (by rw [hx, e])⟩
  have ar : X.A.units + 1 + PyData.depthAll (x :: xs) < cLine := by omega
  rcases hs with hs | hs
  · obtain ⟨its, rv, hl, _⟩ := I.list hs
    obtain ⟨as, ra⟩ := Dp.readsAll I _ _ its hd rv
    exact PySem.W.min_list_data (I.ok.hd hc) hl.isList (by simpa using ra) al ar fun i v h' tk bs hv rd hk => fin rv ra hv rd hk
  · obtain ⟨its, rv, hl, _⟩ := I.tuple hs
    obtain ⟨as, ra⟩ := Dp.readsAll I _ _ its hd rv
    exact PySem.W.min_tuple_data (I.ok.hd hc) (show s.heap.IsTuple a its.toArray from hl) (by simpa using ra) al ar fun i v h' tk bs hv rd hk => fin rv ra hv rd hk
theorem rd_minD {K : PySem.W.Frag} {vs : List V} {H : Hp} {Q : VK} : rMinD K vs H Q = ∃ (a : Addr) (ys : List V) (x : PyData) (xs : List PyData), vs = [V.ref a] ∧ (SqL K H a ys ∨ SqT K H a ys) ∧ DpAll K H ys (x :: xs) ∧ PyData.canLayAll0 (x :: xs) = true ∧ PySem.W.AlikeAll (x :: xs) ∧ PyData.depthAll (x :: xs) ≤ 60 ∧
  ∀ (i : Nat) v, ys[i]? = some v → (x :: xs)[i]? = some (PySem.W.minD x xs) → Q v H := rfl
theorem rd_indexD {K : PySem.W.Frag} {x : V} {xs : List V} {H : Hp} {Q : VK} : rIndexD K x xs H Q = ∃ (a : Addr) (y : V) (d : PyData) (ds : List PyData) (j : Nat) (z : PyData), x = V.ref a ∧ xs = [y] ∧ Dp K H (V.ref a) (.list ds) ∧ Dp K H y d ∧
  SeqAt.shaped (.list ds) = true ∧ SeqAt.shaped d = true ∧ ds[j]? = some z ∧ PyData.eqv z d = true ∧ (∀ (m : Nat) (z' : PyData), m < j → ds[m]? = some z' → PyData.eqv z' d = false) ∧ Q (.int (j : Nat)) H := rfl
end
end CB
/-! divmod; comprehensions by what holds beside the list that is made -/
namespace CB
open PySem PySem.Spec PyProof.Rows L2
/-! ### divmod of any size -/
def rDm : List V → Hp → VK → Prop := fun xs H Q => ∃ i j : Int, xs = [.int i, .int j] ∧ CDivP i j ∧ ∀ p, H p = none → Q (.ref p) (upd H p (.tup [.int (i / j), .int (i % j)]))
theorem cr_dm {X : Cx} : CallR X (.builtin "divmod") rDm := call_divmodW
theorem rd_dm {xs : List V} {H : Hp} {Q : VK} : rDm xs H Q = ∃ i j : Int, xs = [.int i, .int j] ∧ CDivP i j ∧ ∀ p, H p = none → Q (.ref p) (upd H p (.tup [.int (i / j), .int (i % j)])) := rfl
/-! ### a comprehension: what holds beside the list that is made -/
section
variable {K : PySem.W.Frag} {a : Addr} {xs : List V} {g : TG} {tt : TT} {te : TE} {vs : List Nat} {σ : L2.St} {H : Hp} {Q : VK} {lo : Int} {n : Nat}
/-- lists made since H stand as they were -/
def Kn (H H1 H2 : Hp) : Prop := ∀ D l, H D = none → H1 D = some (.lst l) → H2 D = some (.lst l)
theorem Kn.same {H H1 H2 : Hp} (s : Same H1 H2) : Kn H H1 H2 := fun D l _ e => s _ _ e
theorem Kn.refl {H H1 : Hp} : Kn H H1 H1 := fun _ _ _ e => e
theorem Kn.trans {H H1 H2 H3 : Hp} (a : Kn H H1 H2) (b : Kn H H2 H3) : Kn H H1 H3 := fun D l n e => b D l n (a D l n e)
/-- what does not speak of lists made since H -/
def Ind (H : Hp) (I : Hp → Prop) : Prop := ∀ H1 D l l', I H1 → H D = none → H1 D = some (.lst l) → I (upd H1 D (.lst l'))
theorem same_updD {H H1 : Hp} {D : Addr} {o : HO} (s : Same H H1) (n : H D = none) : Same H (upd H1 D o) := fun b x e => by
  rw [upd_ne (ne_of_none e n)]
  exact s _ _ e
theorem Ind.same {H : Hp} : Ind H (Same H) := fun H1 D l l' s n _ => same_updD s n
abbrev Turn1 (H : Hp) (g : TG) (tt : TT) (te : TE) (vs : List Nat) (σ : L2.St) (I : Nat → List V → Hp → Prop) (i : Nat) (x : V) : Prop :=
  ∀ zs H1, I i zs H1 → ∀ (M : VK) (S : Hp → Prop), (∀ v H2, Kn H H1 H2 → I (i + 1) (zs ++ [v]) H2 → M v H2) → (∀ H2, Kn H H1 H2 → I (i + 1) zs H2 → S H2) →
    g x (wipe σ vs) H1 fun σ2 H2 => wipe σ2 vs = wipe σ vs ∧ tt σ2 H2 fun b H3 => if b = true then te σ2 H3 M else S H3
theorem turn1 {I : Nat → List V → Hp → Prop} {i : Nat} {x : V} (hi : ∀ i zs, Ind H (I i zs)) (hz : ∀ i zs H1, I i zs H1 → zs.length < sizeLine) (t : Turn1 H g tt te vs σ I i x) {D : Addr} (nD : H D = none) {zs : List V} {H1 : Hp}
    (p : I i zs H1 ∧ H1 D = some (.lst zs)) {N : Hp → Prop} (hN : ∀ ys' H', I (i + 1) ys' H' ∧ H' D = some (.lst ys') → N H') : g x (wipe σ vs) H1 fun σ2 H2 => wipe σ2 vs = wipe σ vs ∧ tt σ2 H2 fun b H3 =>
      if b = true then te σ2 H3 fun y H4 => ∃ acc, H4 D = some (.lst acc) ∧ acc.length < sizeLine ∧ N (upd H4 D (.lst (acc ++ [y]))) else N H3 :=
  t zs H1 p.1 (fun y H4 => ∃ acc, H4 D = some (.lst acc) ∧ acc.length < sizeLine ∧ N (upd H4 D (.lst (acc ++ [y])))) N
    (fun v H2 k q => ⟨zs, k D zs nD p.2, hz _ _ _ p.1, hN (zs ++ [v]) _ ⟨hi _ _ H2 D zs _ q nD (k D zs nD p.2), upd_same⟩⟩) (fun H2 k q => hN zs _ ⟨q, k D zs nD p.2⟩)
theorem LcT.i (I : Nat → List V → Hp → Prop) (hi : ∀ i zs, Ind H (I i zs)) (h0 : ∀ H1, Same H H1 → I 0 [] H1) (hl : ∀ i zs H1, I i zs H1 → SqT K H1 a xs) (hz : ∀ i zs H1, I i zs H1 → zs.length < sizeLine)
    (hs : ∀ i x, xs[i]? = some x → Turn1 H g tt te vs σ I i x) (hd : ∀ D zs H', H D = none → I xs.length zs H' → H' D = some (.lst zs) → Q (.ref D) H') : LcT K a g tt te vs σ H Q :=
  LcT.w (xs := xs) (fun i D zs H1 => (I i zs H1 ∧ H1 D = some (.lst zs)) ∧ H D = none) (fun D nD => ⟨⟨h0 _ (same_upd nD), upd_same⟩, nD⟩) (fun D i zs H1 _ p => hl i zs H1 p.1.1)
    (fun D i x zs H1 hx p N hN => turn1 hi hz (hs i x hx) p.2 p.1 fun ys' H' q => hN ys' H' ⟨q, p.2⟩) (fun D zs H' _ p => hd D zs H' p.2 p.1.1 p.1.2)
theorem LcL.i (I : Nat → List V → Hp → Prop) (hi : ∀ i zs, Ind H (I i zs)) (h0 : ∀ H1, Same H H1 → I 0 [] H1) (hl : ∀ i zs H1, I i zs H1 → SqL K H1 a xs) (hz : ∀ i zs H1, I i zs H1 → zs.length < sizeLine)
    (hs : ∀ i x, xs[i]? = some x → Turn1 H g tt te vs σ I i x) (hd : ∀ D zs H', H D = none → I xs.length zs H' → H' D = some (.lst zs) → Q (.ref D) H') : LcL K a g tt te vs σ H Q :=
  LcL.w (xs := xs) (fun i D zs H1 => (I i zs H1 ∧ H1 D = some (.lst zs)) ∧ H D = none) (fun D nD => ⟨⟨h0 _ (same_upd nD), upd_same⟩, nD⟩) (fun D i zs H1 _ p => hl i zs H1 p.1.1)
    (fun D i x zs H1 hx p N hN => turn1 hi hz (hs i x hx) p.2 p.1 fun ys' H' q => hN ys' H' ⟨q, p.2⟩) (fun D zs H' _ p => hd D zs H' p.2 p.1.1 p.1.2)
theorem LcR.i (I : Nat → List V → Hp → Prop) (hi : ∀ i zs, Ind H (I i zs)) (h0 : ∀ H1, Same H H1 → I 0 [] H1) (hz : ∀ i zs H1, I i zs H1 → zs.length < sizeLine)
    (hs : ∀ i, i < n → Turn1 H g tt te vs σ I i (.int (lo + i))) (hd : ∀ D zs H', H D = none → I n zs H' → H' D = some (.lst zs) → Q (.ref D) H') : LcR lo n g tt te vs σ H Q :=
  LcR.w (fun i D zs H1 => (I i zs H1 ∧ H1 D = some (.lst zs)) ∧ H D = none) (fun D nD => ⟨⟨h0 _ (same_upd nD), upd_same⟩, nD⟩)
    (fun D i zs H1 hx p N hN => turn1 hi hz (hs i hx) p.2 p.1 fun ys' H' q => hN ys' H' ⟨q, p.2⟩) (fun D zs H' _ p => hd D zs H' p.2 p.1.1 p.1.2)
/-- the items are told: y i is what the turn i adds, if it adds any -/
def pureI (H : Hp) (m : Nat) (y : Nat → Option V) (i : Nat) (zs : List V) (H1 : Hp) : Prop := Same H H1 ∧ zs = (List.range i).filterMap y ∧ i ≤ m
abbrev Turn2 (H : Hp) (g : TG) (tt : TT) (te : TE) (vs : List Nat) (σ : L2.St) (y : Option V) (x : V) : Prop :=
  ∀ H1, Same H H1 → ∀ (M : VK) (S : Hp → Prop), (∀ v H2, y = some v → Same H1 H2 → M v H2) → (∀ H2, y = none → Same H1 H2 → S H2) →
    g x (wipe σ vs) H1 fun σ2 H2 => wipe σ2 vs = wipe σ vs ∧ tt σ2 H2 fun b H3 => if b = true then te σ2 H3 M else S H3
theorem turn2 {m : Nat} {y : Nat → Option V} {i : Nat} {x : V} (hm : i < m) (t : Turn2 H g tt te vs σ (y i) x) : Turn1 H g tt te vs σ (pureI H m y) i x := by
  rintro zs H1 ⟨s1, rfl, _⟩ M S hM hS
  refine t H1 s1 M S (fun v H2 e s2 => hM v H2 (.same s2) ⟨s1.trans s2, ?_, hm⟩) (fun H2 e s2 => hS H2 (.same s2) ⟨s1.trans s2, ?_, hm⟩)
  · rw [List.range_succ, List.filterMap_append, List.filterMap_cons, e]
    rfl
  · rw [List.range_succ, List.filterMap_append, List.filterMap_cons, e, List.filterMap_nil, List.append_nil]
theorem pureI.ind {m : Nat} {y : Nat → Option V} (i : Nat) (zs : List V) : Ind H (pureI H m y i zs) := fun H1 D l l' p n _ => ⟨same_updD p.1 n, p.2⟩
theorem pureI.z {m : Nat} {y : Nat → Option V} (hm : m ≤ 10000000) (i : Nat) (zs : List V) (H1 : Hp) (p : pureI H m y i zs H1) : zs.length < sizeLine := by
  obtain ⟨_, rfl, hi⟩ := p
  have := List.length_filterMap_le y (List.range i)
  rw [List.length_range] at this
  rw [PySem.sizeLine_eq]
  omega
theorem LcT.p (y : Nat → Option V) (hm : xs.length ≤ 10000000) (hx : ∀ H1, Same H H1 → SqT K H1 a xs) (hs : ∀ i x, xs[i]? = some x → Turn2 H g tt te vs σ (y i) x)
    (hd : ∀ D H', H D = none → Same H H' → H' D = some (.lst ((List.range xs.length).filterMap y)) → Q (.ref D) H') : LcT K a g tt te vs σ H Q :=
  LcT.i (pureI H xs.length y) pureI.ind (fun H1 s => ⟨s, rfl, Nat.zero_le _⟩) (fun i zs H1 p => hx H1 p.1) (pureI.z hm) (fun i x h => turn2 (List.getElem?_eq_some_iff.mp h).1 (hs i x h)) (fun D zs H' nD p e => hd D H' nD p.1 (by rw [← p.2.1]; exact e))
theorem LcL.p (y : Nat → Option V) (hm : xs.length ≤ 10000000) (hx : ∀ H1, Same H H1 → SqL K H1 a xs) (hs : ∀ i x, xs[i]? = some x → Turn2 H g tt te vs σ (y i) x)
    (hd : ∀ D H', H D = none → Same H H' → H' D = some (.lst ((List.range xs.length).filterMap y)) → Q (.ref D) H') : LcL K a g tt te vs σ H Q :=
  LcL.i (pureI H xs.length y) pureI.ind (fun H1 s => ⟨s, rfl, Nat.zero_le _⟩) (fun i zs H1 p => hx H1 p.1) (pureI.z hm) (fun i x h => turn2 (List.getElem?_eq_some_iff.mp h).1 (hs i x h)) (fun D zs H' nD p e => hd D H' nD p.1 (by rw [← p.2.1]; exact e))
theorem LcR.p (y : Nat → Option V) (hm : n ≤ 10000000) (hs : ∀ i, i < n → Turn2 H g tt te vs σ (y i) (.int (lo + i)))
    (hd : ∀ D H', H D = none → Same H H' → H' D = some (.lst ((List.range n).filterMap y)) → Q (.ref D) H') : LcR lo n g tt te vs σ H Q :=
  LcR.i (pureI H n y) pureI.ind (fun H1 s => ⟨s, rfl, Nat.zero_le _⟩) (pureI.z hm) (fun i h => turn2 h (hs i h)) (fun D zs H' nD p e => hd D H' nD p.1 (by rw [← p.2.1]; exact e))
end
theorem small_size {n : Nat} (h : n ≤ 10000000) : n < sizeLine := by rw [PySem.sizeLine_eq]; omega
theorem iabs (i : Int) : (if i < 0 then -i else i) = (i.natAbs : Int) := by
  split <;> omega
theorem fm_self {α : Type} : ∀ l : List α, (List.range l.length).filterMap (fun i => l[i]?) = l
  | [] => rfl
  | a :: l => by
    rw [List.length_cons, List.range_succ_eq_map, List.filterMap_cons, List.filterMap_map]
    show a :: _ = _
    congr 1
    exact fm_self l
theorem fm_get {α β : Type} (l : List α) (g : α → Option β) : (List.range l.length).filterMap (fun i => l[i]?.bind g) = l.filterMap g := by
  rw [← List.filterMap_filterMap, fm_self]
theorem fm_ite {α β : Type} (l : List α) (p : α → Bool) (f : α → β) : l.filterMap (fun a => if p a = true then some (f a) else none) = (l.filter p).map f := by
  induction l with
  | nil => rfl
  | cons a l ih =>
    rw [List.filterMap_cons, List.filter_cons]
    by_cases h : p a = true
    · rw [if_pos h, if_pos h, List.map_cons, ← ih]
    · rw [if_neg h, if_neg h, ← ih]
theorem lg_int {n : Int} (h : n.natAbs ≤ 1000000000000000000000000) : n.natAbs.log2 < 9000 := by
  have := log_lt (n := n.natAbs) (k := 80) (Nat.lt_of_le_of_lt h (by decide))
  omega
/-- a def that is never called so -/
def spNev : Sp := fun _ _ _ _ => False
theorem Dn.never {P : Program} {w : World} {K : PySem.W.Frag} {mg : Str → Option Value} {base : Heap} {x : Str} {st : Stmt} {N ps : List Str} (D : Dn K mg x st ps) (S : FnScope N ps (defScope st)) : Cal P w K mg base x 1 ps spNev :=
  D.cal S (fun _ _ _ _ h => h.elim) (fun _ _ _ _ _ _ _ _ _ _ h => h.elim)
theorem ixNk {n j : Nat} (hj : j < n) : ixN n (j : Int) = some j := by
  have h1 : (0 : Int) ≤ (j : Int) := by omega
  have h2 : (j : Int) < (n : Int) := by omega
  unfold ixN
  rw [if_pos h1, if_pos h2, Int.toNat_natCast]
/-- targets within a comprehension -/
theorem pg_tupK {X : Cx} {K : PySem.W.Frag} {es : List Expr} {k : Nat} {pos : Pos} {t : TGs} {n : Nat} (hK : X.K = K) (hc : X.calm = true) (h : PGs X es t)
    (hn : (assignEach es X.env).length = n) (hst : (assignEach es X.env).findIdx? (·.1) = none) : PG X (.Tuple es k pos) (gTup K n t) := by
  subst hK
  exact pg_tup hc h hn hst
/-! ### tuples of ints -/
section
variable {K : PySem.W.Frag} {H : Hp}
def dIs (ns : List Int) : PyData := .tuple (ns.map PyData.int)
theorem lay_ints : ∀ ts : List Int, PyData.canLayAll0 (ts.map PyData.int) = true
  | [] => rfl
  | t :: ts => by
    show (PyData.canLay0 (.int t) && PyData.canLayAll0 (ts.map PyData.int)) = true
    rw [lay_ints ts]
    rfl
theorem depth_ints : ∀ ts : List Int, PyData.depthAll (ts.map PyData.int) ≤ 1
  | [] => by decide
  | t :: ts => by
    have := depth_ints ts
    show max (PyData.depth (.int t)) (PyData.depthAll (ts.map PyData.int)) ≤ 1
    have e : PyData.depth (.int t) = 0 := rfl
    omega
theorem shaped_ints (ts : List Int) : SeqAt.shaped (dIs ts) = true := by
  unfold SeqAt.shaped dIs
  have a : PyData.canLay0 (.tuple (ts.map PyData.int)) = true := lay_ints ts
  have b : PyData.depth (.tuple (ts.map PyData.int)) ≤ 64 := by
    have := depth_ints ts
    show PyData.depthAll (ts.map PyData.int) + 1 ≤ 64
    omega
  rw [a, decide_eq_true b]
  rfl
theorem eqvAll_ints : ∀ xs ys : List Int, PyData.eqvAll (xs.map PyData.int) (ys.map PyData.int) = decide (xs = ys)
  | [], [] => rfl
  | [], _ :: _ => rfl
  | _ :: _, [] => rfl
  | x :: xs, y :: ys => by
    show ((x == y) && PyData.eqvAll (xs.map PyData.int) (ys.map PyData.int)) = _
    rw [eqvAll_ints xs ys]
    by_cases h1 : x = y
    · by_cases h2 : xs = ys
      · simp [h1, h2]
      · simp [h2]
    · simp [h1]
theorem eqv_ints (xs ys : List Int) : PyData.eqv (dIs xs) (dIs ys) = decide (xs = ys) := eqvAll_ints xs ys
theorem dp_I {p : Addr} {ns : List Int} (h : H p = some (.tup (ns.map V.int))) : Dp K H (.ref p) (dIs ns) := .tup (SqT.of h) (dp_ints ns)
end
/-! ### sums, slices, multiples of tuples of any size; isinstance of several classes -/
theorem rd_catA {K : PySem.W.Frag} {x y : V} {H : Hp} {Q : VK} : rCatA K x y H Q = ∃ a b xs ys, x = .ref a ∧ y = .ref b ∧ SqT K H a xs ∧ SqT K H b ys ∧ xs.length + ys.length ≤ sizeLine ∧
  (xs = [] → Q (.ref b) H) ∧ (xs ≠ [] → ys = [] → Q (.ref a) H) ∧ (xs ≠ [] → ys ≠ [] → ∀ p, H p = none → Q (.ref p) (upd H p (.tup (xs ++ ys)))) := rfl
theorem rd_slA {K : PySem.W.Frag} {x : V} {lo hi : Option Int} {H : Hp} {Q : VK} : rSlA K x lo hi H Q = ∃ a xs, x = .ref a ∧ SqT K H a xs ∧
  (HT.sIx xs.length 0 lo = 0 ∧ HT.sIx xs.length xs.length hi = xs.length → Q (.ref a) H) ∧ (¬ (HT.sIx xs.length 0 lo = 0 ∧ HT.sIx xs.length xs.length hi = xs.length) → ∀ p, H p = none → Q (.ref p) (upd H p (.tup (cutV xs lo hi)))) := rfl
theorem rd_repT {K : PySem.W.Frag} {x y : V} {H : Hp} {Q : VK} : rRepT K x y H Q = ∃ l k xs, x = .ref l ∧ y = .int k ∧ SqT K H l xs ∧ xs ≠ [] ∧ 2 ≤ k ∧ k ≤ 1000 ∧ xs.length ≤ 1000 ∧ ∀ p, H p = none → Q (.ref p) (upd H p (.tup (List.replicate k.toNat xs).flatten)) := rfl
theorem rd_isiT {K : PySem.W.Frag} {xs : List V} {H : Hp} {Q : VK} : rIsiT K xs H Q = ∃ (x : V) (tp : Addr) (cs : List V) (t : Value) (us : List Value) (b : Bool), xs = [x, .ref tp] ∧ H tp = some (.tup cs) ∧ Paired ClsV cs us ∧ TyX K H x t ∧ PySem.W.kitAny K t us = some b ∧ Q (.bl b) H := rfl
theorem isiT_mk {K : PySem.W.Frag} {x : V} {T t1 t2 : String} {b1 b2 : Bool} {H : Hp} {tp : Addr} {Q : VK} (hT : H tp = some (.tup [.ty t1, .ty t2])) (ty : TyX K H x (.type T)) (e1 : kitB T t1 = some b1) (e2 : kitB T t2 = some b2) (q : Q (.bl (b1 || b2)) H) : rIsiT K [x, .ref tp] H Q := by
  refine ⟨x, tp, _, _, [.type t1, .type t2], b1 || b2, rfl, hT, .cons (.ty t1) (.cons (.ty t2) .nil), ty, kitAny_cons (kit_ty e1) (fun h => kitAny_cons (r := b1 || b2) (kit_ty e2) (fun h2 => ?_) (fun h2 => ?_)) (fun h => ?_), q⟩
  · rw [h, h2]; rfl
  · rw [h2, Bool.or_true]
  · rw [h]; rfl
/-! ### rows of ints that stand in a list or a tuple -/
def RowsAt (H : Hp) (xs : List V) (rs : List (List Int)) : Prop := xs.length = rs.length ∧ ∀ (i : Nat) (r : List Int), rs[i]? = some r → ∃ p : Addr, xs[i]? = some (V.ref p) ∧ H p = some (.tup (r.map V.int))
section
variable {K : PySem.W.Frag} {H H' : Hp} {xs : List V} {rs : List (List Int)}
theorem RowsAt.nil : RowsAt H [] [] := ⟨rfl, fun i r e => by simp at e⟩
theorem RowsAt.same (h : RowsAt H xs rs) (s : Same H H') : RowsAt H' xs rs := ⟨h.1, fun i r e => by
  obtain ⟨p, h1, h2⟩ := h.2 i r e
  exact ⟨p, h1, s _ _ h2⟩⟩
theorem RowsAt.snoc {p : Addr} {r : List Int} (h : RowsAt H xs rs) (hp : H p = some (.tup (r.map V.int))) : RowsAt H (xs ++ [V.ref p]) (rs ++ [r]) := by
  refine ⟨by rw [List.length_append, List.length_append, h.1]; rfl, fun i r' e => ?_⟩
  rcases Nat.lt_or_ge i rs.length with c | c
  · rw [List.getElem?_append_left c] at e
    rw [List.getElem?_append_left (by rw [h.1]; exact c)]
    exact h.2 i r' e
  · rw [List.getElem?_append_right c] at e
    rw [List.getElem?_append_right (by rw [h.1]; exact c), h.1]
    cases hi : i - rs.length with
    | zero =>
      rw [hi] at e
      cases e
      exact ⟨p, rfl, hp⟩
    | succ n => rw [hi] at e; simp at e
theorem RowsAt.get (h : RowsAt H xs rs) {i : Nat} {v : V} (e : xs[i]? = some v) : ∃ p r, v = .ref p ∧ rs[i]? = some r ∧ H p = some (.tup (r.map V.int)) := by
  have hi : i < rs.length := by
    rw [← h.1]
    exact (List.getElem?_eq_some_iff.mp e).1
  obtain ⟨p, h1, h2⟩ := h.2 i _ (List.getElem?_eq_getElem hi)
  rw [e] at h1
  cases h1
  exact ⟨p, _, rfl, List.getElem?_eq_getElem hi, h2⟩
theorem RowsAt.updL {D : Addr} {l : List V} {o : HO} (h : RowsAt H xs rs) (hD : H D = some (.lst l)) : RowsAt (upd H D o) xs rs := ⟨h.1, fun i r e => by
  obtain ⟨p, h1, h2⟩ := h.2 i r e
  refine ⟨p, h1, ?_⟩
  rw [upd_ne (ne_of h2 hD (by intro z; cases z))]
  exact h2⟩
end
end CB
/-! a list stored into a slice of a list: from a place on, and from a place on with a step -/
namespace CB
open PySem PySem.Spec PyProof.Rows L2
/-- the items behind the store -/
def putS {α : Type} (xs ys : List α) (d e st : Nat) : List α := if st = 1 then xs.take d ++ ys ++ xs.drop (max d e) else
  (((List.range ys.length).map fun k => d + st * k).zip ys).foldl (fun zs q => zs.set q.1 q.2) xs
theorem foldl_set_map {α β : Type} (f : α → β) : ∀ (ps : List (Nat × α)) (xs : List α), (ps.map fun q => (q.1, f q.2)).foldl (fun zs q => zs.set q.1 q.2) (xs.map f) = (ps.foldl (fun zs q => zs.set q.1 q.2) xs).map f
  | [], _ => rfl
  | q :: ps, xs => by
    show (ps.map fun q => (q.1, f q.2)).foldl (fun zs q => zs.set q.1 q.2) ((xs.map f).set q.1 (f q.2)) = _
    rw [← List.map_set, foldl_set_map f ps]
    rfl
theorem foldl_set_len {α : Type} : ∀ (ps : List (Nat × α)) (xs : List α), (ps.foldl (fun zs q => zs.set q.1 q.2) xs).length = xs.length
  | [], _ => rfl
  | q :: ps, xs => by
    show (ps.foldl (fun zs q => zs.set q.1 q.2) (xs.set q.1 q.2)).length = _
    rw [foldl_set_len ps, List.length_set]
theorem vals_foldl : ∀ {ys : List V} {us : List Value} (ks : List Nat) {xs : List V} {ts : List Value}, Vals ys us → Vals xs ts →
    Vals ((ks.zip ys).foldl (fun zs q => zs.set q.1 q.2) xs) ((ks.zip us).foldl (fun zs q => zs.set q.1 q.2) ts)
  | _, _, [], _, _, _, r => r
  | _, _, k :: ks, _, _, .nil, r => r
  | _, _, k :: ks, _, _, .cons h t, r => vals_foldl ks t (r.set h k)
theorem arr_foldl {α : Type} : ∀ (ps : List (Nat × α)) (xs : List α), ps.foldl (fun (zs : Array α) q => zs.setIfInBounds q.1 q.2) xs.toArray = (ps.foldl (fun zs q => zs.set q.1 q.2) xs).toArray
  | [], _ => rfl
  | q :: ps, xs => by
    show ps.foldl _ (xs.toArray.setIfInBounds q.1 q.2) = _
    rw [List.setIfInBounds_toArray, arr_foldl ps]
    rfl
section
variable {prog : Program} {w : World} {A : Around} {E : Value → Shared → Prop} {s : Shared}
theorem bounds_from {d n : Nat} {st : Option Int} (hd : d ≤ n) (h1 : 0 < st.getD 1) : sliceBounds (some (d : Int)) none st n = ((d : Int), (n : Int), st.getD 1) := by
  simp only [sliceBounds]
  have a : ¬ ((d : Int) < 0) := by omega
  simp only [a, h1, gt_iff_lt, if_true, if_false]
  congr 1
  omega
/-- the write of a list's slots, whatever it is -/
theorem store_slice {l b sl : Addr} {us ws : Array Value} {n m d st : Nat} {vl vs : Value} {so : Option Int} {Q : Unit → Shared → Prop}
    (hl : s.heap.get? l = some { cls := .type "list", data := .seq us n }) (hb : s.heap.get? b = some { cls := .type "list", data := .seq ws m }) (ne : l ≠ b)
    (hs : s.heap.IsSliceOf sl vl .none vs) (pl : IsPart vl (some (d : Int))) (ps : IsPart vs so) (hso : so.getD 1 = (st : Int)) (s0 : 0 < st) (hd : d ≤ us.size)
    (hz : us.size + ws.size ≤ sizeLine) (hc : st ≠ 1 → ws.size = (sliceRange (d : Int) (us.size : Int) (st : Int)).length)
    (h : Q () { s with heap := s.heap.update l (Obj.mapSeq fun xs => if st = 1 then xs.extract 0 d ++ ws ++ xs.extract (max d us.size) xs.size else
      ((sliceRange (d : Int) (us.size : Int) (st : Int)).zip ws.toList).foldl (fun xs q => xs.setIfInBounds q.1 q.2) xs) }) :
    wpAny (model prog w) A (setItem (.ref l) (.ref sl) (.ref b)) Q E s := by
  have il := PySem.IsL.isList hl
  have ib := PySem.IsL.isList hb
  obtain ⟨os, hos, hcs, hds⟩ := id hs
  have ty : s.TypeIs (.ref sl) "slice" := ⟨os, hos, hcs⟩
  have s1 : so ≠ some 0 := fun z => by rw [z] at hso; have : (0 : Int) = (st : Int) := hso; omega
  have raw0 : ¬ ((rawPart so == rawInt 0) = true) := by
    cases so with
    | none => exact Bool.false_ne_true
    | some c => exact fun z => s1 (by have : c = 0 := by simpa [rawPart, rawInt] using z
                                      rw [this])
  have diff : Builtin.List.listSameRef (.ref l) (.ref b) = false := beq_eq_false_iff_ne.mpr ne
  have mx : (max (d : Int) (us.size : Int)).toNat = max d us.size := by omega
  unfold setItem
  try with_reducible refine wpAny_holding ?_
  first | refine wpAny_bind (wpAny_pure ?_) | skip
  refine wpAny_bind (wpAny_sequenceKey il.typeIs (by decide) (wpAny_bind (wpAny_callSpecial?_slot (name := Str.ofString "__setitem__") il.typeIs slot_list_setitem (wpAny_call_entry slot_list_setitem il.typeIs entry_list_setitem ?_ (args_list_setitem _ _ _)))))
  show wpAny _ _ (Builtin.List.listSubscript? (.ref sl) >>= fun _ => _) _ _ s
  refine wpAny_bind (m := Builtin.List.listSubscript? (.ref sl)) ?_
  unfold Builtin.List.listSubscript?
  refine wpAny_bind (wpAny_specialOf ty slice_no_index ?_)
  rw [if_pos (by rfl)]
  refine wpAny_pure ?_
  show wpAny _ _ (typeOf (.ref sl) >>= fun _ => _) _ _ s
  refine wpAny_bind (wpAny_typeOf ty ?_)
  first | rw [if_neg (by decide)] | refine PySem.W.KFB.if_not (by decide) ?_
  rw [listSliceParts_eq]
  refine wpAny_bind (wpAny_bind (wpAny_field hos hds (x := vs) rfl (wpAny_bind (wpAny_listPart ps ?_))))
  rw [if_neg raw0]
  refine wpAny_bind (wpAny_field hos hds (x := vl) rfl (wpAny_bind (wpAny_listPart pl (wpAny_bind (wpAny_field hos hds (x := .none) rfl (wpAny_bind (wpAny_listPart .none (wpAny_pure ?_))))))))
  first
    | refine PySem.W.KFB.if_not diff ?_
    | (dsimp only
       rw [if_neg (by rw [diff]; exact Bool.false_ne_true)])
  refine wpAny_bind (m := Builtin.List.listAllItems (.ref b) "must assign iterable to extended slice") ?_
  unfold Builtin.List.listAllItems
  refine wpAny_bind (wpAny_typeOf ib.typeIs ?_)
  first | refine PySem.W.KFB.if_so (by decide) ?_ | rw [if_pos (by decide)]
  unfold Builtin.List.listItems
  refine wpAny_bind (wpAny_seqItems hb rfl (wpAny_pure (wpAny_bind (wpAny_bind (wpAny_seqItems hl rfl (wpAny_pure ?_))))))
  refine wpAny_bind (wpAny_of_eq ((sliceIndices_raw (some (d : Int)) none so us.size s1).trans (congrArg (pure : Int × Int × Int → Sem (Int × Int × Int)) (bounds_from hd (by omega)))) ?_)
  rw [hso]
  show wpAny _ _ (if ((st : Int) == 1) = true then _ else _) _ _ s
  by_cases one : st = 1
  · subst one
    rw [if_pos (by decide)]
    refine wpAny_bind (wpAny_rule ?_)
    first | refine PySem.W.KFB.if_not (notLongL hz) ?_ | (rw [notLongL hz, if_neg Bool.false_ne_true])
    first | refine wpAny_bind (wpAny_pure ?_) | skip
    show wpAny _ _ (updateSeq l (fun xs => xs.extract 0 ((d : Int)).toNat ++ ws ++ xs.extract (max (d : Int) (us.size : Int)).toNat xs.size) >>= fun _ => _) _ _ s
    rw [mx, Int.toNat_natCast]
    refine wpAny_bind (wpAny_updateSeq (hz := by omega) (_hz' := by simp only [Array.size_append, Array.size_extract]; omega) hl rfl ?_)
    refine wpAny_bind (wpAny_letGo ?_)
    first
      | exact wpAny_bind (wpAny_pure (wpAny_pure ⟨.none, rfl, wpAny_pure h⟩))
      | exact wpAny_pure ⟨.none, rfl, wpAny_pure h⟩
  · rw [if_neg (by rw [beq_iff_eq]; omega)]
    have hc := hc one
    have np : (ws.size != (sliceRange (d : Int) (us.size : Int) (st : Int)).length) = false := by rw [hc]; exact bne_self_eq_false _
    first | refine PySem.W.KFB.if_not np ?_ | (dsimp only; rw [np, if_neg Bool.false_ne_true])
    first | refine wpAny_bind (wpAny_pure ?_) | skip
    refine wpAny_bind (wpAny_rule ?_)
    have z2 : ∀ (ps : List (Nat × Value)) (xs : Array Value), (ps.foldl (fun xs q => xs.setIfInBounds q.1 q.2) xs).size = xs.size := by
      intro ps
      induction ps with
      | nil => intro xs; rfl
      | cons q ps ih => intro xs; exact (ih _).trans (Array.size_setIfInBounds ..)
    show wpAny _ _ (updateSeq l (fun xs => ((sliceRange (d : Int) (us.size : Int) (st : Int)).zip ws.toList).foldl (fun xs q => xs.setIfInBounds q.1 q.2) xs) >>= fun _ => _) _ _ s
    refine wpAny_bind (wpAny_updateSeq (hz := by omega) (_hz' := by rw [z2]; omega) hl rfl ?_)
    simp only [if_neg one] at h
    refine wpAny_bind (wpAny_letGo ?_)
    first
      | exact wpAny_bind (wpAny_pure (wpAny_pure ⟨.none, rfl, wpAny_pure h⟩))
      | exact wpAny_pure ⟨.none, rfl, wpAny_pure h⟩
theorem range_from {d n st : Nat} (s0 : 0 < st) : sliceRange (d : Int) (n : Int) (st : Int) = (List.range ((n - d + (st - 1)) / st)).map fun k => d + st * k := by
  unfold sliceRange
  rw [if_pos (show (st : Int) > 0 by omega)]
  have e : (if (d : Int) < (n : Int) then ((n : Int) - d + st - 1) / (st : Int) else 0).toNat = (n - d + (st - 1)) / st := by
    by_cases c : d < n
    · rw [if_pos (by omega)]
      have : (n : Int) - d + st - 1 = ((n - d + (st - 1) : Nat) : Int) := by omega
      rw [this]
      show (((n - d + (st - 1)) / st : Nat) : Int).toNat = _
      rw [Int.toNat_natCast]
    · rw [if_neg (by omega)]
      have : n - d = 0 := by omega
      rw [this, Nat.zero_add, Nat.div_eq_of_lt (by omega)]
      rfl
  show List.map _ (List.range (if (d : Int) < (n : Int) then ((n : Int) - d + st - 1) / (st : Int) else 0).toNat) = _
  rw [e]
  refine List.map_congr_left fun k _ => ?_
  show ((d : Int) + (st : Int) * (k : Int)).toNat = _
  have : (st : Int) * (k : Int) = ((st * k : Nat) : Int) := (Int.natCast_mul _ _).symm
  rw [this]
  omega
end
section
variable {X : Cx} {pos p2 : Pos}
/-- o[lo:] = v, o[lo::st] = v: by values -/
def rPutS : V → Option Int → Option Int → V → Hp → (Hp → Prop) → Prop := fun o lo so v H Q => ∃ (l b : Addr) (xs ys : List V) (d st : Nat), o = .ref l ∧ v = .ref b ∧ l ≠ b ∧ H l = some (.lst xs) ∧ H b = some (.lst ys) ∧
  lo = some (d : Int) ∧ so.getD 1 = (st : Int) ∧ 0 < st ∧ d ≤ xs.length ∧ xs.length + ys.length ≤ sizeLine ∧ (st ≠ 1 → ys.length = (xs.length - d + (st - 1)) / st) ∧ Q (upd H l (.lst (putS xs ys d xs.length st)))
theorem put_slice {pins : List (Addr × Obj)} {s : Shared} {σ : L2.St} {H : Hp} {o v : V} {lo so : Option Int} {ov u vl vs : Value} {sl : Addr} {Q : Hp → Prop} (I : Inv X pins σ H s) (ro : RelV o ov) (rv : RelV v u)
    (hs : s.heap.IsSliceOf sl vl .none vs) (pl : IsPart vl lo) (ps : IsPart vs so) (h : rPutS o lo so v H Q) : wpAny (model X.prog X.w) X.A (setItem ov (.ref sl) u) (fun _ s' => ∃ H', Inv X pins σ H' s' ∧ Q H') X.xe s := by
  obtain ⟨l, b, xs, ys, d, st, rfl, rfl, ne, hl, hb, rfl, hst, s0, hd, hz, hc, q⟩ := h
  cases ro
  cases rv
  obtain ⟨z, its, n, r, el, e⟩ := I.lstM hl
  obtain ⟨z2, ws, m, r2, el2, e2⟩ := I.lstM hb
  refine store_slice (d := d) (st := st) e e2 ne hs pl ps hst s0 (by rw [List.size_toArray]; omega) (by rw [List.size_toArray, List.size_toArray]; omega) (fun c => ?_) ⟨_, ?_, q⟩
  · rw [range_from s0, List.length_map, List.length_range, List.size_toArray, List.size_toArray, ← el2, ← el]
    exact hc c
  · unfold putS
    by_cases one : st = 1
    · refine I.lset (its' := its.take d ++ ws ++ its.drop (max d xs.length)) (t' := s.toks) hl e ?_ ?_ ?_
      · simp only [if_pos one]
        show its.toArray.extract 0 d ++ ws.toArray ++ its.toArray.extract (max d its.toArray.size) its.toArray.size = _
        rw [splice_eq, List.size_toArray, ← el]
      · rw [if_pos one]
        exact Vals.append (Vals.append (r.take _) r2) (r.drop _)
      · rw [if_pos one, List.length_append, List.length_append, List.length_take, List.length_drop]
        omega
    · refine I.lset (its' := (((List.range ys.length).map fun k => d + st * k).zip ws).foldl (fun zs q => zs.set q.1 q.2) its) (t' := s.toks) hl e ?_ ?_ ?_
      · simp only [if_neg one]
        show ((sliceRange (d : Int) (its.toArray.size : Int) (st : Int)).zip ws).foldl (fun xs q => xs.setIfInBounds q.1 q.2) its.toArray = _
        rw [arr_foldl, range_from s0, List.size_toArray, ← el, hc one]
      · rw [if_neg one]
        exact vals_foldl _ r2 r
      · rw [if_neg one, foldl_set_len]
        omega
def gPutS (te : TE) (tl ts : TO) : TG := fun v σ H Q => te σ H fun o H1 => tl σ H1 fun lo H2 => ts σ H2 fun so H3 => rPutS o lo so v H3 fun H4 => Q σ H4
theorem pg_putS {rl : Value → Value → Value → List Value} {o : Expr} {lo so : Option Expr} {te : TE} {tl ts : TO} (ho : PE X o te) (hl : PO X lo tl) (hs : PO X so ts)
    (ha : ∀ v, assign (.Subscript o (.Slice lo none so p2) pos) X.env v = (do
      let a ← holding [v] (eval o X.env)
      let i ← holding [v, a] (eval (.Slice lo none so p2) X.env)
      standAt pos
      holding [v, a, i] (setItem a i v)
      release (rl v a i) []) := by intro _; rfl) : PG X (.Subscript o (.Slice lo none so p2) pos) (gPutS te tl ts) := by
  refine ⟨fun pins s σ H v u Q I r h => ?_⟩
  rw [ha]
  refine wpAny_bind (wpAny_holding (thn (ho.run pins s σ H _ I h) fun a s1 ⟨x, H1, I1, r1, q1⟩ => ?_))
  refine wpAny_bind (wpAny_holding ?_)
  refine wpAny_Slice (thn (hl.run pins s1 σ H1 _ I1 q1) fun vl s2 ⟨lo, H2, I2, pl, q2⟩ => ?_)
  rw [evalPart_none]
  refine wpAny_pure (thn (hs.run pins s2 σ H2 _ I2 q2) fun vs s3 ⟨so, H3, I3, ps, q3⟩ => ?_)
  have I4 : Inv X pins σ H3 { s3 with heap := s3.heap.push { cls := .type "slice", data := .fields #[vl, .none, vs] } } := I3.kept (t' := s3.toks) fun b ob q => Heap.get?_push_of_some _ q
  refine wpAny_bind (wpAny_standAt (wpAny_bind (wpAny_holding (thn (put_slice (sl := s3.heap.objs.size) I4 r1 r (Heap.IsSliceOf.new ..) pl ps q3) fun _ s5 ⟨H5, I5, q5⟩ => ?_))))
  exact wpAny_release ⟨σ, H5, I5, q5⟩
theorem rd_putS {te : TE} {tl ts : TO} : gPutS te tl ts v σ H Q = te σ H fun o H1 => tl σ H1 fun lo H2 => ts σ H2 fun so H3 => rPutS o lo so v H3 fun H4 => Q σ H4 := rfl
theorem rPutS.w {l b : Addr} {xs ys : List V} {d st : Nat} {lo so : Option Int} {H : Hp} {Q : Hp → Prop} (ne : l ≠ b) (hl : H l = some (.lst xs)) (hb : H b = some (.lst ys)) (e1 : lo = some (d : Int)) (e2 : so.getD 1 = (st : Int)) (s0 : 0 < st)
    (hd : d ≤ xs.length) (hz : xs.length + ys.length ≤ sizeLine) (hc : st ≠ 1 → ys.length = (xs.length - d + (st - 1)) / st) (q : Q (upd H l (.lst (putS xs ys d xs.length st)))) : rPutS (.ref l) lo so (.ref b) H Q :=
  ⟨l, b, xs, ys, d, st, rfl, rfl, ne, hl, hb, e1, e2, s0, hd, hz, hc, q⟩
end
end CB
namespace CB
open PySem PySem.Spec PyProof.Rows L2
/-! ### Refused alone, where a law has no Malformed -/
structure ErrP (K : PySem.W.Frag) (mg : Str → Option Value) (C f : Addr) : Prop where
  g : mg "Refused" = some (.ref C)
  ox : OexC K C
  i : PySem.W.findIn K (.ref C) "__init__" = some (some (.ref f))
  t : PySem.W.typeIn K (.ref f) = some (.type "function")
  n : PySem.W.findIn K (.ref C) "reason" = some none
  xf : XfC K C
  rr : PySem.W.exmOne K (.ref C) (.ref C) = some true
structure ErrQ (P : Program) (w : World) (K : PySem.W.Frag) (mg : Str → Option Value) (base : Heap) (C : Addr) : Prop where
  r : ∃ f fd, ErrP K mg C f ∧ FnOk P w K mg base CX0 1 f fd ["self", "reason"] (spRI K) ∧ Binds K fd ["self", "reason"] []
theorem ps_refQ {X : Cx} {W : WX} {C : Addr} {m : Str} {j : Nat} {p p2 pos pp : Pos} (E : ErrQ X.prog X.w X.K X.mg X.base C) (hc : X.calm = true) (tk : Takes X W) (hr : Room 2 X.A) (hg : Gl X "Refused") (hs : starEach [Expr.Constant (.str m) j p2] X.env = (false, eval (Expr.Constant (.str m) j p2) X.env) :: starEach [] X.env := by rfl)
    (hpl : (backTo pos (starEach [] X.env)).any (·.1) = false := by rfl) :
    PS X (.Raise (some (.Call (.Name "Refused" p) [.Constant (.str m) j p2] [] pos)) none pp) (fun _ σ H => ∀ d H', Same H H' → H d = none → H' d = some (.xd [("reason", .str m)]) → W (.ref C) (some d) σ H') := by
  obtain ⟨f, fd, R, F, b⟩ := E.r
  refine ⟨fun pins s σ H D I h => ?_⟩
  refine (ps_raise hc tk (pmk_oex R.ox R.i R.t F hr b .nil pass0 hg R.g (pa_cons pe_str pa_nil hs) rfl hs hpl)).run pins s σ H D I ?_
  show ([V.str m].length ≤ 1000 ∧ _)
  refine ⟨by show 1 ≤ 1000; decide, fun a na => ⟨a, C, .str m, rfl, R.ox, R.n, upd_same, fun dx ndx ne => ⟨rfl, dx, [("reason", .str m)], upd_same, ?_, ?_, ?_⟩⟩⟩
  · rw [upd_ne ne, upd_same]
  · rw [upd_ne ne] at ndx
    exact ndx
  · rw [upd_ne ne] at ndx
    refine h dx _ (fun b o e => ?_) ndx upd_same
    have hbd : b ≠ dx := ne_of_none e ndx
    have hba : b ≠ a := ne_of_none e na
    rw [upd_ne hbd, del_ne hba, upd_ne hba, upd_ne hbd, upd_ne hba]
    exact e
end CB
namespace CB
open PySem PySem.Spec PyProof.Rows L2
/-- a tuple of ints that a module's name holds -/
abbrev TC (K : PySem.W.Frag) (mg : Str → Option Value) (x : Str) (ns : List Int) : Prop := ∃ a : Addr, mg x = some (.ref a) ∧ ∀ H : Hp, SqT K H a (ns.map V.int)
end CB
namespace CB
open PySem PySem.Spec PyProof.Rows L2
/-- a loop whose test leaves another heap -/
theorem while_h {c : TT} {tb : TS} {D : Ends} {σ : L2.St} {H : Hp} (Pw : L2.St → Hp → Prop) (μ : L2.St → Hp → Nat) (h0 : Pw σ H)
    (hs : ∀ σ H, Pw σ H → ∀ N : L2.St → Hp → Prop, (∀ σ' H', Pw σ' H' → μ σ' H' < μ σ H → N σ' H') →
      ∀ R : Bool → Hp → Prop, (∀ H1, tb { D with nx := N, ct := N, bk := D.nx } σ H1 → R true H1) → (∀ H1, D.nx σ H1 → R false H1) → c σ H R) : tWhile c tb D σ H := by
  refine ⟨fun m σ H => m = μ σ H ∧ Pw σ H, ⟨_, rfl, h0⟩, ?_⟩
  rintro m σ H ⟨rfl, p⟩
  refine hs σ H p (fun σ' H' => Pw σ' H' ∧ μ σ' H' < μ σ H) (fun σ' H' a b => ⟨a, b⟩) _ (fun H1 h => ?_) (fun H1 h => ?_)
  · rw [if_pos rfl]
    exact ⟨_, fun σ' H' ⟨p', l⟩ => ⟨_, l, rfl, p'⟩, h⟩
  · rw [if_neg Bool.false_ne_true]
    exact h
end CB
namespace CB
open PySem PySem.Spec PyProof.Rows L2
/-- a value's truth within a comprehension -/
theorem pt_truthK {X : Cx} {K : PySem.W.Frag} (h : X.K = K) {a : Expr} {ta : TE} (ha : PE X a ta) (he : ∀ whole, isTrue a X.env whole = (do let v ← whole; standAt a.pos; holding [v] (truthy v))) :
    PT X a (fun σ H Q => ta σ H fun x H' => ∃ k, TruV K x H' k ∧ Q k H') := by
  subst h
  exact pt_truth ha he
end CB
/-! zip of two, each a list or a tuple -/
namespace CB
open PySem PySem.Spec PyProof.Rows L2
/-- a tuple (true) or a list -/
def SqB (t : Bool) (K : PySem.W.Frag) (H : Hp) (a : Addr) (xs : List V) : Prop := match t with
  | true => SqT K H a xs
  | false => SqL K H a xs
def ItB (t : Bool) (h : Heap) (it a : Addr) (i : Nat) : Prop := match t with
  | true => h.IsTupleIter it a i
  | false => h.IsListIter it a i
def HsB (t : Bool) (h : Heap) (a : Addr) (us : Array Value) : Prop := match t with
  | true => h.IsTuple a us
  | false => h.IsList a us
def obB (t : Bool) (a : Addr) : Obj := match t with
  | true => { cls := .type "tuple_iterator", data := .fields #[.ref a, .int 0 0] }
  | false => { cls := .type "list_iterator", data := .fields #[.ref a, .int 0 0] }
theorem SqB.inj {X : Cx} {pins : List (Addr × Obj)} {σ : L2.St} {H : Hp} {s : Shared} {t : Bool} {a : Addr} {xs ys : List V} (I : Inv X pins σ H s) (h : SqB t X.K H a xs) (h' : SqB t X.K H a ys) : xs = ys := by
  cases t with
  | true => exact I.tuple_inj h h'
  | false => exact I.list_inj h h'
theorem SqB.laid {X : Cx} {pins : List (Addr × Obj)} {σ : L2.St} {H : Hp} {s : Shared} {t : Bool} {a : Addr} {xs : List V} (I : Inv X pins σ H s) (h : SqB t X.K H a xs) : ∃ us : List Value, Vals xs us ∧ HsB t s.heap a us.toArray := by
  cases t with
  | true =>
    obtain ⟨us, r, p, _⟩ := I.tuple h
    exact ⟨us, r, p⟩
  | false =>
    obtain ⟨us, r, p, _⟩ := I.list h
    exact ⟨us, r, p.isList⟩
theorem HsB.lt {t : Bool} {h : Heap} {a : Addr} {us : Array Value} (p : HsB t h a us) : a < h.objs.size := by
  cases t with
  | true => obtain ⟨_, e, _⟩ := p; exact Heap.lt_size e
  | false => obtain ⟨_, e, _⟩ := p; exact Heap.lt_size e
theorem HsB.at {t : Bool} {h h' : Heap} {a : Addr} {us : Array Value} (p : HsB t h a us) (k : ∀ o, h.get? a = some o → h'.get? a = some o) : HsB t h' a us := by
  cases t with
  | true => exact Heap.IsTuple.at p k
  | false => exact Heap.IsList.at p k
theorem ItB.at {t : Bool} {h h' : Heap} {it a : Addr} {i : Nat} (p : ItB t h it a i) (k : ∀ o, h.get? it = some o → h'.get? it = some o) : ItB t h' it a i := by
  cases t with
  | true => exact Heap.IsTupleIter.at p k
  | false => exact Heap.IsListIter.at p k
theorem ItB.ob {t : Bool} {h : Heap} {it a : Addr} {i : Nat} (p : ItB t h it a i) : ∃ o, h.get? it = some o ∧ ∀ v, o.data ≠ .cell v := by
  cases t with
  | true => obtain ⟨o, e, _, d⟩ := p; exact ⟨o, e, fun v q => by rw [d] at q; cases q⟩
  | false => obtain ⟨o, e, _, d⟩ := p; exact ⟨o, e, fun v q => by rw [d] at q; cases q⟩
theorem drawsB {prog : Program} {w : World} {A : Around} (t : Bool) (hh : A.handled = none) (it a : Addr) (hne : a ≠ it) (us : Array Value) :
    Draws prog w A it [it, a] us.size (fun i v => us[i]? = some v) (fun i h => ItB t h it a i ∧ HsB t h a us) := by
  cases t with
  | true => exact Draws.tuple hh it a hne us
  | false => exact Draws.list hh it a hne us
theorem beginsB (t : Bool) (a : Addr) (us : Array Value) : Begins (.ref a) (obB t a) fun h => HsB t h a us := by
  cases t with
  | true => exact begins_tuple a us
  | false => exact begins_list a us
theorem itB_new {t : Bool} {h : Heap} {it a : Addr} (e : h.get? it = some (obB t a)) : ItB t h it a 0 := by
  cases t with
  | true => exact ⟨_, e, rfl, rfl⟩
  | false => exact ⟨_, e, rfl, rfl⟩
/-- what stands at a and b at each turn, the items in new pairs -/
def Itm (s t : Bool) (K : PySem.W.Frag) (a b : Addr) : It where
  go := fun i H => ∃ (xs ys : List V) (x y : V), (SqB s K H a xs ∧ xs[i]? = some x) ∧ SqB t K H b ys ∧ ys[i]? = some y
  yld := fun i H v H' => ∃ T x y, v = .ref T ∧ H T = none ∧ H' = upd H T (.tup [x, y]) ∧ (∀ xs, SqB s K H a xs → xs[i]? = some x) ∧ (∀ ys, SqB t K H b ys → ys[i]? = some y)
  stop := fun i H => ∃ xs ys : List V, (SqB s K H a xs ∧ SqB t K H b ys) ∧ i ≤ xs.length ∧ i ≤ ys.length ∧ (i = xs.length ∨ i = ys.length)
/-- the state of a zip's own objects -/
def ZpB (s t : Bool) (a b z TI TO i1 i2 : Addr) (i : Nat) (h : Heap) : Prop :=
  IsZip h z TI TO .none ∧ IsTupOf2 h TI (.ref i1) (.ref i2) ∧ (∃ x y, IsTupOf2 h TO x y) ∧ ItB s h i1 a i ∧ ItB t h i2 b i
theorem nm2 {x y z : Addr} (h1 : x ≠ y) (h2 : x ≠ z) : x ∉ [y, z] := fun h => by
  rcases List.mem_cons.mp h with e | e
  · exact h1 e
  · exact h2 (List.mem_singleton.mp e)
theorem fp5 {z TI TO i1 i2 c : Addr} {p : Addr → Prop} (hc : c ∈ [z, TI, TO, i1, i2]) (h0 : p z) (h1 : p TI) (h2 : p TO) (h3 : p i1) (h4 : p i2) : p c := by
  simp only [List.mem_cons, List.not_mem_nil, or_false] at hc
  rcases hc with rfl | rfl | rfl | rfl | rfl <;> assumption
theorem turn_zipM {P : Program} {w : World} {K : PySem.W.Frag} {elts : List Expr} {kk : Nat} {tpos : Pos} (s t : Bool) {a b z TI TO i1 i2 : Addr} (S : ZipSep2 z TI TO i1 i2 [i1, a] [i2, b]) (n1 : a ≠ i1) (n2 : b ≠ i2) :
    Turn P w K (.Tuple elts kk tpos) (Itm s t K a b) [z, TI, TO, i1, i2] z (ZpB s t a b z TI TO i1 i2) where
  mem := List.mem_cons_self
  obj := fun i h st c hc => by
    obtain ⟨q0, q1, ⟨x, y, q2⟩, q3, q4⟩ := st
    exact fp5 (p := fun c => ∃ o, h.get? c = some o ∧ ∀ v, o.data ≠ .cell v) hc ⟨_, q0, fun _ e => nomatch e⟩ ⟨_, q1, fun _ e => nomatch e⟩ ⟨_, q2, fun _ e => nomatch e⟩ q3.ob q4.ob
  keep := fun i h h1 st k => by
    obtain ⟨q0, q1, ⟨x, y, q2⟩, q3, q4⟩ := st
    exact ⟨k z (by simp) _ q0, k TI (by simp) _ q1, ⟨x, y, k TO (by simp) _ q2⟩, q3.at (k i1 (by simp)), q4.at (k i2 (by simp))⟩
  item := by
    intro X hP hw hK hcalm i pins sh σ H E I hf st hgo
    subst hP hw hK
    obtain ⟨q0, q1, ⟨x0, y0, q2⟩, q3, q4⟩ := st
    obtain ⟨xs, ys, x, y, ⟨hxs, hx⟩, hys, hy⟩ := hgo
    obtain ⟨us, r1, p1⟩ := hxs.laid I
    obtain ⟨vs, r2, p2⟩ := hys.laid I
    obtain ⟨u, hu, ru⟩ := r1.get hx
    obtain ⟨v, hv, rv⟩ := r2.get hy
    have lz : z < sh.heap.objs.size := Heap.lt_size q0
    have iu : i < us.toArray.size := by
      rw [List.size_toArray]
      exact (List.getElem?_eq_some_iff.mp hu).1
    have iv : i < vs.toArray.size := by
      rw [List.size_toArray]
      exact (List.getElem?_eq_some_iff.mp hv).1
    refine wpAny_pyNext_zipD2_item S (drawsB s (A := X.A.in1) (I.ok.hd hcalm) i1 a n1 us.toArray) (drawsB t (A := X.A.in1) (I.ok.hd hcalm) i2 b n2 vs.toArray) q0 q1 q2 ⟨q3, p1⟩ ⟨q4, p2⟩ iu iv fun u' v' h1 tk eu ev z1 T1 s1 s2 nT sz k => ?_
    have eu : u' = u := by
      have e : us[i]? = some u' := by simpa using eu
      rw [hu] at e
      exact (Option.some.inj e).symm
    have ev : v' = v := by
      have e : vs[i]? = some v' := by simpa using ev
      rw [hv] at e
      exact (Option.some.inj e).symm
    subst eu ev
    refine ⟨_, rfl, wpAny_letOwnedTupleGo_zip (s := { sh with heap := h1, toks := tk }) z1 fun h2 z2 sb => ?_⟩
    have nT2 : h2.get? sh.heap.objs.size = some { cls := .type "tuple", data := .seq #[u', v'] } := (sb.2 _ (Nat.ne_of_gt lz)).trans nT
    have new : ObjOk X.prog X.w (upd H sh.heap.objs.size (.tup [x, y])) h2 sh.heap.objs.size (.tup [x, y]) :=
      ⟨by show 2 ≤ sizeLine; decide, [u', v'], .cons ru (.cons rv .nil), ⟨_, nT2, rfl, _, rfl⟩⟩
    have kk : ∀ c o, c ∉ [z, TI, TO, i1, i2] → sh.heap.get? c = some o → h2.get? c = some o := fun c o hc e =>
      (sb.2 c fun z => hc (by simp [z])).trans (k c o (fun z => hc (by simp [z])) (fun z => hc (by simp [z])) (fun z => hc (by simp [z])) (fun z => hc (by simp [z])) e)
    have I2 : Inv X pins σ (upd H sh.heap.objs.size (.tup [x, y])) { sh with heap := h2, toks := tk } := I.turnedNew (ch := [z, TI, TO, i1, i2]) kk hf (Nat.le_refl _) new
    have old : ∀ c o, sh.heap.get? c = some o → c ≠ sh.heap.objs.size := fun c o e => Nat.ne_of_lt (Heap.lt_size e)
    refine ⟨.ref sh.heap.objs.size, _, I2, rfl, ⟨_, x, y, rfl, I.hok.fresh (Nat.le_refl _), rfl, fun l hl => by rw [hl.inj I hxs]; exact hx, fun l hl => by rw [hl.inj I hys]; exact hy⟩, ⟨z2, ?_, ⟨u', v', ?_⟩, ?_, ?_⟩, fun c hc => ?_⟩
    · exact (sb.2 _ S.TIz).trans (k _ _ S.TIz S.TITO S.TIi1 S.TIi2 q1)
    · exact (sb.2 _ S.TOz).trans T1
    · exact s1.1.at fun o e => (sb.2 i1 S.zi1.symm).trans e
    · exact s2.1.at fun o e => (sb.2 i2 S.zi2.symm).trans e
    · have ne : c ≠ sh.heap.objs.size := fp5 (p := fun c => c ≠ sh.heap.objs.size) hc (old _ _ q0) (old _ _ q1) (old _ _ q2) (by obtain ⟨o, e, _⟩ := q3.ob; exact old _ _ e) (by obtain ⟨o, e, _⟩ := q4.ob; exact old _ _ e)
      rw [upd_ne ne]
      exact (hf c hc).1
  done := by
    intro X hP hw hK hcalm i pins sh σ H E I hf st hstop
    subst hP hw hK
    obtain ⟨q0, q1, ⟨x0, y0, q2⟩, q3, q4⟩ := st
    obtain ⟨xs, ys, ⟨hxs, hys⟩, l1, l2, he⟩ := hstop
    obtain ⟨us, r1, p1⟩ := hxs.laid I
    obtain ⟨vs, r2, p2⟩ := hys.laid I
    have e1 : us.toArray.size = xs.length := by rw [List.size_toArray, r1.length]
    have e2 : vs.toArray.size = ys.length := by rw [List.size_toArray, r2.length]
    refine wpAny_pyNext_zipD2_end S (drawsB s (A := X.A.in1) (I.ok.hd hcalm) i1 a n1 us.toArray) (drawsB t (A := X.A.in1) (I.ok.hd hcalm) i2 b n2 vs.toArray) q0 q1 q2 ⟨q3, p1⟩ ⟨q4, p2⟩ (by omega) (by omega) (by omega) fun h1 tk k => ?_
    exact ⟨rfl, I.turnedL (ch := [z, TI, TO, i1, i2]) (fun c o hc e => k c o (fun z => hc (by simp [z])) (fun z => hc (by simp [z])) (fun z => hc (by simp [z])) (fun z => hc (by simp [z])) e) hf⟩
  self := fun A i sh Q E st h => wpAny_pyIter_zip st.1 h
/-- zip(e, e2), the kinds of both told -/
def iZipM (s t : Bool) (K : PySem.W.Frag) (ta : TA) : TI := fun σ H R => ta σ H fun vs H1 => ∃ a b xs ys, vs = [.ref a, .ref b] ∧ SqB s K H1 a xs ∧ SqB t K H1 b ys ∧ R (Itm s t K a b) H1
theorem pi_zipM {X : Cx} {e e2 : Expr} {ta : TA} {p pos tpos : Pos} {elts : List Expr} {kk : Nat} (s t : Bool) (hg : Gl X "zip") (hm : X.mg "zip" = none) (ha : PA X [e, e2] ta)
    (hs : starEach [e, e2] X.env = (false, eval e X.env) :: starEach [e2] X.env := by rfl) (hpl : (backTo pos (starEach [e2] X.env)).any (·.1) = false := by rfl) :
    PI X (.Tuple elts kk tpos) (.Call (.Name "zip" p) [e, e2] [] pos) (iZipM s t X.K ta) := by
  refine ⟨fun pins sh σ H R I h => ?_⟩
  refine Call_ (ld_blt I hg hm PyProof.Rows.boot_zip (PyProof.Rows.callWith_type1 (thn (ha.run pos pins sh σ H _ I h) fun us s1 ⟨vs, H1, I1, rr, a, b, xs, ys, ex, hx, hy, q⟩ => ?_) hs hpl))
  subst ex
  obtain ⟨u1, u2, rfl, ra, rb⟩ := vals2 rr
  cases ra
  cases rb
  obtain ⟨us, r1, p1⟩ := hx.laid I1
  obtain ⟨ws, r2, p2⟩ := hy.laid I1
  have la : @LT.lt Nat _ a s1.heap.objs.size := p1.lt
  have lb : @LT.lt Nat _ b s1.heap.objs.size := p2.lt
  refine zip_begins2 (beginsB s a us.toArray) (beginsB t b ws.toArray) p1 p2 fun h1 z0 z1 z2 g1 g2 sz k => wpAny_pyIter_zip z0 ?_
  have I2 : Inv X pins σ H1 { s1 with heap := h1 } := I1.kept (t' := s1.toks) k
  have S : ZipSep2 (s1.heap.objs.size + 4) (s1.heap.objs.size + 2) (s1.heap.objs.size + 3) s1.heap.objs.size (s1.heap.objs.size + 1) [s1.heap.objs.size, a] [s1.heap.objs.size + 1, b] := by
    constructor <;> first | (refine PySem.W.neN ?_; omega) | exact List.mem_cons_self | (refine nm2 ?_ ?_ <;> refine PySem.W.neN ?_ <;> omega)
  refine ⟨s1.heap.objs.size + 4, _, _, _, H1, rfl, I2, turn_zipM s t S (Nat.ne_of_lt la) (Nat.ne_of_lt (Nat.lt_succ_of_lt lb)), ⟨z0, z1, ⟨_, _, z2⟩, itB_new g1, itB_new g2⟩, fun c hc => ?_, q⟩
  have le : s1.heap.objs.size ≤ c := fp5 (p := fun c => s1.heap.objs.size ≤ c) hc (Nat.le_add_right _ _) (Nat.le_add_right _ _) (Nat.le_add_right _ _) (Nat.le_refl _) (Nat.le_add_right _ _)
  exact I1.fpOk le (I1.hok.fresh le)
/-! loops and comprehensions over it -/
def ForZ (s t : Bool) (K : PySem.W.Frag) (a b : Addr) := ForJ (Itm s t K a b)
def LcZ (s t : Bool) (K : PySem.W.Frag) (a b : Addr) := LcJ (Itm s t K a b)
section
variable {K : PySem.W.Frag} {s t : Bool} {a b : Addr} {xs ys : List V} {g : TG} {tb : TS} {D : Ends} {σ : L2.St} {H : Hp} {ta : TA} {tt : TT} {te : TE} {vs : List Nat} {Q : VK}
theorem rd_forZ : tFor (iZipM s t K ta) g tb D σ H = ta σ H fun us H1 => ∃ a b xs ys, us = [.ref a, .ref b] ∧ SqB s K H1 a xs ∧ SqB t K H1 b ys ∧ ForZ s t K a b g tb D σ H1 := rfl
theorem rd_lcZ : tLc (iZipM s t K ta) g tt te vs σ H Q = ta σ H fun us H1 => ∃ a b xs ys, us = [.ref a, .ref b] ∧ SqB s K H1 a xs ∧ SqB t K H1 b ys ∧ LcZ s t K a b g tt te vs σ H1 Q := rfl
theorem itm_go {i : Nat} (hx : SqB s K H a xs) (hy : SqB t K H b ys) (h1 : i < xs.length) (h2 : i < ys.length) : (Itm s t K a b).go i H := ⟨xs, ys, _, _, ⟨hx, List.getElem?_eq_getElem h1⟩, hy, List.getElem?_eq_getElem h2⟩
theorem ForZ.w {n : Nat} (hn : n = min xs.length ys.length) (Pw : Nat → L2.St → Hp → Prop) (h0 : Pw 0 σ H) (hl : ∀ i σ H, i ≤ n → Pw i σ H → SqB s K H a xs ∧ SqB t K H b ys)
    (hs : ∀ (i : Nat) (x y : V) (T : Addr) σ H, xs[i]? = some x → ys[i]? = some y → Pw i σ H → H T = none → ∀ N : L2.St → Hp → Prop, (∀ σ' H', Pw (i + 1) σ' H' → N σ' H') → g (.ref T) σ (upd H T (.tup [x, y])) fun σ2 H2 => tb { D with nx := N, ct := N, bk := D.nx } σ2 H2)
    (hd : ∀ σ H, Pw n σ H → D.nx σ H) : ForZ s t K a b g tb D σ H := by
  refine ⟨fun i m σ H => m = n - i ∧ i ≤ n ∧ Pw i σ H, ⟨_, rfl, Nat.zero_le _, h0⟩, ?_⟩
  rintro i m σ H ⟨rfl, hi, p⟩
  obtain ⟨qx, qy⟩ := hl i σ H hi p
  rcases Nat.lt_or_ge i n with c | c
  · refine .inr ⟨itm_go qx qy (by omega) (by omega), Pw (i + 1), fun σ' H' p' => ⟨n - (i + 1), by omega, rfl, c, p'⟩, fun v H' y => ?_⟩
    obtain ⟨T, x, y, rfl, hT, rfl, f1, f2⟩ := y
    exact hs i x y T σ H (f1 xs qx) (f2 ys qy) p hT _ fun _ _ h => h
  · have e : i = n := by omega
    subst e
    exact .inl ⟨⟨xs, ys, ⟨qx, qy⟩, by omega, by omega, by omega⟩, hd σ H p⟩
/-- a comprehension over zip, by what holds beside the list that is made -/
theorem LcZ.i {n : Nat} (hn : n = min xs.length ys.length) (I : Nat → List V → Hp → Prop) (hi : ∀ i zs, Ind H (I i zs)) (h0 : ∀ H1, Same H H1 → I 0 [] H1) (hl : ∀ i zs H1, I i zs H1 → SqB s K H1 a xs ∧ SqB t K H1 b ys) (hz : ∀ i zs H1, I i zs H1 → zs.length < sizeLine)
    (hs : ∀ (i : Nat) (x y : V), xs[i]? = some x → ys[i]? = some y → ∀ zs H1 T, I i zs H1 → H1 T = none → ∀ (M : VK) (S : Hp → Prop), (∀ v H2, Kn H H1 H2 → I (i + 1) (zs ++ [v]) H2 → M v H2) → (∀ H2, Kn H H1 H2 → I (i + 1) zs H2 → S H2) →
      g (.ref T) (wipe σ vs) (upd H1 T (.tup [x, y])) fun σ2 H2 => wipe σ2 vs = wipe σ vs ∧ tt σ2 H2 fun b H3 => if b = true then te σ2 H3 M else S H3)
    (hd : ∀ D zs H', H D = none → I n zs H' → H' D = some (.lst zs) → Q (.ref D) H') : LcZ s t K a b g tt te vs σ H Q := by
  intro D hD
  refine ⟨fun i m H1 => m = n - i ∧ i ≤ n ∧ ∃ zs, I i zs H1 ∧ H1 D = some (.lst zs), ⟨_, rfl, Nat.zero_le _, [], h0 _ (same_upd hD), upd_same⟩, ?_⟩
  rintro i m H1 ⟨rfl, hin, zs, p, hz1⟩
  obtain ⟨qx, qy⟩ := hl i zs H1 p
  rcases Nat.lt_or_ge i n with c | c
  · refine .inr ⟨itm_go qx qy (by omega) (by omega), fun H' => ∃ zs, I (i + 1) zs H' ∧ H' D = some (.lst zs), fun H' p' => ⟨n - (i + 1), by omega, rfl, c, p'⟩, fun v H' y => ?_⟩
    obtain ⟨T, x, y, rfl, hT, rfl, f1, f2⟩ := y
    exact hs i x y (f1 xs qx) (f2 ys qy) zs H1 T p hT (fun y H4 => ∃ acc, H4 D = some (.lst acc) ∧ acc.length < sizeLine ∧ ∃ zs, I (i + 1) zs (upd H4 D (.lst (acc ++ [y]))) ∧ (upd H4 D (.lst (acc ++ [y]))) D = some (.lst zs)) _
      (fun v H2 k q => ⟨zs, k D zs hD hz1, hz _ _ _ p, zs ++ [v], hi _ _ H2 D zs _ q hD (k D zs hD hz1), upd_same⟩) (fun H2 k q => ⟨zs, q, k D zs hD hz1⟩)
  · have e : i = n := by omega
    subst e
    exact .inl ⟨⟨xs, ys, ⟨qx, qy⟩, by omega, by omega, by omega⟩, hd D zs H1 hD p hz1⟩
/-- the items are told -/
theorem LcZ.p {n : Nat} (hn : n = min xs.length ys.length) (y : Nat → Option V) (hm : n ≤ 10000000) (hx : ∀ H1, Same H H1 → SqB s K H1 a xs ∧ SqB t K H1 b ys)
    (hs : ∀ (i : Nat) (x x' : V), xs[i]? = some x → ys[i]? = some x' → ∀ H1 T, Same H H1 → H1 T = some (.tup [x, x']) → ∀ (M : VK) (S : Hp → Prop), (∀ v H2, y i = some v → Same H1 H2 → M v H2) → (∀ H2, y i = none → Same H1 H2 → S H2) →
      g (.ref T) (wipe σ vs) H1 fun σ2 H2 => wipe σ2 vs = wipe σ vs ∧ tt σ2 H2 fun b H3 => if b = true then te σ2 H3 M else S H3)
    (hd : ∀ D H', H D = none → Same H H' → H' D = some (.lst ((List.range n).filterMap y)) → Q (.ref D) H') : LcZ s t K a b g tt te vs σ H Q := by
  refine LcZ.i hn (pureI H n y) pureI.ind (fun H1 s => ⟨s, rfl, Nat.zero_le _⟩) (fun i zs H1 p => hx H1 p.1) (pureI.z hm) ?_ (fun D zs H' nD p e => hd D H' nD p.1 (by rw [← p.2.1]; exact e))
  rintro i x x' h1 h2 zs H1 T ⟨s1, rfl, _⟩ nT M S hM hS
  have sT := same_upd (o := HO.tup [x, x']) nT
  have i1 := (List.getElem?_eq_some_iff.mp h1).1
  have i2 := (List.getElem?_eq_some_iff.mp h2).1
  refine hs i x x' h1 h2 _ T (s1.trans sT) upd_same M S (fun v H2 e s2 => hM v H2 (.same (sT.trans s2)) ⟨(s1.trans sT).trans s2, ?_, by omega⟩) (fun H2 e s2 => hS H2 (.same (sT.trans s2)) ⟨(s1.trans sT).trans s2, ?_, by omega⟩)
  · rw [List.range_succ, List.filterMap_append, List.filterMap_cons, e]
    rfl
  · rw [List.range_succ, List.filterMap_append, List.filterMap_cons, e, List.filterMap_nil, List.append_nil]
end
end CB
/-! set(..) of a list of ints, sorted -/
namespace CB
open PySem PySem.Spec PyProof.Rows L2
section
variable {P : Program} {w : World} {A : Around} {E : Value → Shared → Prop} {s : Shared}
/-- the new set, empty -/
abbrev eset (w : World) : Obj := ⟨.type "set", none, .set #[] 0 (.fresh 0 0 (!w.params.followText "set-order")), #[]⟩
abbrev hp1 (w : World) (s : Shared) : Heap := s.heap.push (eset w)
theorem set_of_list {l : Addr} {us : Array Value} (ns : List Int) {Q : Value → Shared → Prop} (nh : A.handled = none) (il : s.heap.IsList l us) (ui : IntsAre us.toList ns) (few : ns.length + 1 < scanBound)
    (q : ∀ (h' : Heap) (t c : Nat), SetR w h' s.heap.objs.size (fun j => decide (j ∈ ns)) c → c ≤ ns.length → (∀ b o, s.heap.get? b = some o → h'.get? b = some o) → Q (.ref s.heap.objs.size) { s with heap := h', toks := t }) :
    wpAny (model P w) A (call (.type "set") [.ref l]) Q E s := by
  have us_ns : us.size = ns.length := by
    have e := IntsAre.length ui
    rwa [Array.length_toList] at e
  obtain ⟨c, tl, mro⟩ := F.called_set.mro
  have made := F.called_set.made
  have sub := F.called_set.sub
  have notT := F.called_set.notType
  have canC := F.called_set.canCreate
  have chk := F.typeCall_set_1 (.ref l)
  refine wpAny_call (codeAny_of_tree (show wpAny _ _ (callAny (.type "set") _) _ _ _ from ?_))
  refine wpAny_pure ⟨Code.quiet_builtin _ (by decide +kernel), codeAny_builtin F.entry_type_call ?_⟩
  rw [Around.under_plain (weight_type_call_type "set" [.ref l] []) rfl]
  repeat (any_goals (first | assumption | wp_step))
  refine codeAny_mono (code_set_led1 (w := w) (.ref l) (E := E) (Q₁ := fun ob t => ob = .ref s.heap.objs.size ∧ t = { s with heap := hp1 w s }) ⟨rfl, rfl⟩) fun r t ht => ?_
  match r, ht with
  | .error e, ht => exact ht
  | .ok .next, ht => exact ht.elim
  | .ok .brk, ht => exact ht.elim
  | .ok .cont, ht => exact ht.elim
  | .ok (.ret ob), ht =>
    obtain ⟨rfl, rfl⟩ := ht
    have at1 : (hp1 w s).get? s.heap.objs.size = some (eset w) := Heap.get?_push_size _ rfl
    have ty1 : Shared.TypeIs { s with heap := hp1 w s } (.ref s.heap.objs.size) "set" := ⟨_, at1, rfl⟩
    have look := F.called_set.init.lookup
    have bind := F.called_set.init.bind (.ref s.heap.objs.size)
    repeat (any_goals (first | assumption | wp_step))
    refine codeAny_mono (codeAny_call_builtin (R := wants (fun x t => x = .none ∧ ∃ (h' : Heap) (tk c : Nat), t = { s with heap := h', toks := tk } ∧ (SetR w h' s.heap.objs.size (fun j => decide (j ∈ ns)) c ∧ c ≤ ns.length) ∧ ∀ b o, s.heap.get? b = some o → h'.get? b = some o) E)
      F.called_set.init.plain F.entry_set_init (check_set_init_1 ty1 ?_)) fun r2 t2 ht2 => ?_
    · obtain ⟨⟨oc, od, oa, osl⟩, g0, rfl, nl, rfl⟩ := il
      have g1 : (hp1 w s).get? l = some ⟨.type "list", od, .seq us nl, osl⟩ := Heap.get?_push_of_some _ g0
      have s1 := F.sub_list_set
      have s2 := F.sub_list_frozenset
      have nd : (Value.type "list" == Value.type "dict") = false := by decide
      have il1 : (hp1 w s).IsList l us := ⟨_, g1, rfl, nl, rfl⟩
      unfold Builtin.«set.__init__» noKeywords Builtin.Frozenset.updateFrom
      generalize iterator : pyIter = IT
      wp_walk
      subst iterator
      refine wpAny_pyIter_list il1 (wpAny_bind (wpAny_runValue ?_))
      have l0 : l < s.heap.objs.size := Heap.lt_size g0
      have z1 : (hp1 w s).objs.size = s.heap.objs.size + 1 := Heap.size_push ..
      have n1 : l ≠ (hp1 w s).objs.size := fun e => Nat.ne_of_lt (Nat.lt_succ_of_lt l0) (Eq.trans e z1)
      have n2 : s.heap.objs.size ∉ [(hp1 w s).objs.size, l] := fun z => by
        rcases List.mem_cons.mp z with z | z
        · exact Nat.ne_of_lt (Nat.lt_succ_self _) (Eq.trans z z1)
        · exact Nat.ne_of_lt l0 (List.mem_singleton.mp z).symm
      have told : ∀ (i : Nat) (v : Value), us[i]? = some v → ∃ k t, ns[i]? = some k ∧ v = .int k t := fun i v hv => by
        have hi : i < ns.length := us_ns ▸ (Array.getElem?_eq_some_iff.mp hv).1
        obtain ⟨t, e⟩ := PyProof.Rows.IntsAre.int_at ui i v (by rwa [Array.getElem?_toList])
        refine ⟨ns[i], t, List.getElem?_eq_getElem hi, e.trans ?_⟩
        rw [List.getD_eq_getElem?_getD, List.getElem?_eq_getElem hi]
        rfl
      refine set_update_ints (w := w) (Walks.list (by simp [nh]) _ l n1 us).toS s.heap.objs.size n2 ns us_ns few told us.size 0 _ (Nat.sub_zero _) (Nat.zero_le _) ⟨⟨_, Heap.get?_push_size _ rfl, rfl, rfl⟩, il1.push _⟩ ⟨0, Nat.le_refl 0, ?_⟩ ?_
      · exact setR_new_at (Heap.get?_push_of_some _ at1)
      · intro ⟨h', g', d', t', o'⟩ c' mv hc hS
        obtain rfl : g' = s.gens := mv.gens
        obtain rfl : d' = s.drawn := mv.drawn
        obtain rfl : o' = s.os := mv.os
        refine wpAny_pure (show wpAny _ _ (ret Value.none) _ _ _ from wpAny_pure ⟨rfl, h', t', c', rfl, ⟨hS, by omega⟩, fun b o e => ?_⟩)
        have b0 : b < s.heap.objs.size := Heap.lt_size e
        refine mv.heap b o (fun z => ?_) (Heap.get?_push_of_some _ (Heap.get?_push_of_some _ e))
        rcases List.mem_cons.mp z with z | z
        · exact Nat.ne_of_lt b0 z
        · exact Nat.ne_of_lt (Nat.lt_succ_of_lt b0) (Eq.trans (List.mem_singleton.mp z) z1)
    · match r2, ht2 with
      | .error e, ht2 => exact ht2
      | .ok .next, ht2 => exact ht2.elim
      | .ok .brk, ht2 => exact ht2.elim
      | .ok .cont, ht2 => exact ht2.elim
      | .ok (.ret x), ht2 =>
        obtain ⟨rfl, h', tk, c', rfl, ⟨hS, hc⟩, kept⟩ := ht2
        repeat (any_goals (first | assumption | wp_step))
        exact q _ _ _ hS hc kept
end
section
variable {X : Cx}
/-- set(xs) of a list of ints -/
def rSetL1 (K : PySem.W.Frag) (w : World) : List V → Hp → VK → Prop := fun xs H Q => ∃ (a : Addr) (ns : List Int), xs = [V.ref a] ∧ SqL K H a (ns.map V.int) ∧ ns.length ≤ 1000 ∧
  ∀ p c, H p = none → c ≤ ns.length → Q (.ref p) (upd H p (SetO w p (fun j => decide (j ∈ ns)) c))
theorem cr_setL1 (hc : X.calm = true) : CallR X (.type "set") (rSetL1 X.K X.w) := by
  intro pins s σ H xs us Q I r h
  obtain ⟨a, ns, rfl, hs, few, q⟩ := h
  obtain ⟨its, rv, il, _⟩ := I.list hs
  rw [Vals.ref1 r]
  refine set_of_list ns (I.ok.hd hc) il.isList rv.ints (by unfold scanBound; omega) fun h' t c R hcn kept => ?_
  exact ⟨.ref _, _, I.laid (t' := t) kept (Nat.le_refl _) (setO_new R), rfl, q _ c (I.hok.fresh (Nat.le_refl _)) hcn⟩
theorem cr_setL1w {w : World} (hw : X.w = w) (hc : X.calm = true) : CallR X (.type "set") (rSetL1 X.K w) := by
  subst hw
  exact cr_setL1 hc
theorem cr_sortedSetw {w : World} (hw : X.w = w) (hc : X.calm = true) : CallR X (.builtin "sorted") (rSortedSet w) := by
  subst hw
  exact cr_sortedSet hc
theorem rd_setL1 {K : PySem.W.Frag} {w : World} {xs : List V} {H : Hp} {Q : VK} : rSetL1 K w xs H Q = ∃ (a : Addr) (ns : List Int), xs = [V.ref a] ∧ SqL K H a (ns.map V.int) ∧ ns.length ≤ 1000 ∧
  ∀ p c, H p = none → c ≤ ns.length → Q (.ref p) (upd H p (SetO w p (fun j => decide (j ∈ ns)) c)) := rfl
theorem rd_sortedSet {w : World} {xs : List V} {H : Hp} {Q : VK} : rSortedSet w xs H Q = ∃ (a : Addr) (S : Int → Bool) (n : Nat), xs = [V.ref a] ∧ H a = some (SetO w a S n) ∧ n < 64 ∧
  ∀ (ns : List Int) (p : Addr), ns.Pairwise (· < ·) → (∀ k : Int, k ∈ ns ↔ S k = true) → ns.length = n → H p = none → Q (.ref p) (upd H p (.lst (ns.map V.int))) := rfl
end
end CB
namespace CB
open PySem PySem.Spec PyProof.Rows L2
/-! ### tuple * int, any number of times -/
theorem mul_same (l : Addr) (us : Array Value) (n : Nat) (dd : Option Addr) (sl : Array (Option Value)) (u : Tok) :
    Meets (Builtin.«tuple.__mul__» ⟨[.ref l, .int 1 u], []⟩) (fun _ R s => s.heap.get? l = some ⟨.type "tuple", dd, .seq us n, sl⟩ ∧ R (.ok (.ret (.ref l))) s) :=
  .of_wp fun prog w A R s h => by
    obtain ⟨hp, g, d, tk, os⟩ := s
    obtain ⟨hl, h⟩ := h
    have ix := AutoSeq1.idx_int
    have b1 : (decide ((1 : Int) < -(2 ^ 63)) || decide ((1 : Int) ≥ 2 ^ 63)) = false := by decide
    have b2 : (us.isEmpty || (1 : Int) == 1) = true := by rw [show ((1 : Int) == 1) = true from rfl, Bool.or_true]
    wp_walk using wpAny_loadPart' hl
    exact ⟨_, rfl, h⟩
theorem mul_none (l : Addr) (us : Array Value) (n : Nat) (dd : Option Addr) (sl : Array (Option Value)) (u : Tok) (ne : us.isEmpty = false) :
    Meets (Builtin.«tuple.__mul__» ⟨[.ref l, .int 0 u], []⟩) (fun _ R s => s.heap.get? l = some ⟨.type "tuple", dd, .seq us n, sl⟩ ∧ R (.ok (.ret (.ref s.heap.objs.size))) { s with heap := s.heap.push { cls := .type "tuple", data := .seq #[] } }) :=
  .of_wp fun prog w A R s h => by
    obtain ⟨hp, g, d, tk, os⟩ := s
    obtain ⟨hl, h⟩ := h
    have ix := AutoSeq1.idx_int
    have b2 : (us.isEmpty || (0 : Int) == 1) = false := by rw [ne]; rfl
    wp_walk using wpAny_loadPart' hl
    exact ⟨_, rfl, h⟩
/-- a tuple that a statement made, k times: for one it is the same tuple -/
def rRepA : R2 := fun x y H Q => ∃ (l : Addr) (k : Nat) (xs : List V), x = .ref l ∧ y = .int k ∧ H l = some (.tup xs) ∧ xs ≠ [] ∧ k ≤ 1000 ∧ xs.length ≤ 1000 ∧
  ∀ p H', Same H H' → H' p = some (.tup (List.replicate k xs).flatten) → Q (.ref p) H'
theorem op_repA {X : Cx} : OpR X (binaryOp .Mult) rRepA := by
  intro pins s σ H x y v u Q I rx ry h
  obtain ⟨l, k, xs, rfl, rfl, hT, hne, k1, hz, q⟩ := h
  by_cases c2 : 2 ≤ k
  · exact op_repT pins s σ H _ _ v u Q I rx ry ⟨l, k, xs, rfl, rfl, SqT.of hT, hne, by omega, by omega, hz, fun p np => q p _ (same_upd np) (by rw [upd_same, Int.toNat_natCast])⟩
  cases rx
  obtain ⟨t, rfl⟩ := ry
  obtain ⟨its, r, ⟨⟨cls, dd, data, sl⟩, ho, hc, n, hd⟩, hs⟩ := I.tuple (SqT.of hT)
  simp only at hc hd
  subst hc hd
  have ne : its.toArray.isEmpty = false := by
    cases its with
    | cons a b => rfl
    | nil => exact absurd (List.eq_nil_of_length_eq_zero r.length) hne
  have k01 : k = 1 ∨ k = 0 := by omega
  rcases k01 with rfl | rfl
  · refine wpAny_binaryOp_repeat_ref (T := "tuple") (U := "int") (by decide) ⟨_, ho, rfl⟩
      (fun s' => typeIs_int s' 1 t) noFill_tuple_mul F.fills_int_mul F.slot_int_rmul
      repeat_tuple F.slot_int_index.lookup (call_meets F.slot_int_rmul (typeIs_int s 1 t)
        F.entry_int_rmul (F.args_int_rmul_2 _ _) (int_rmul_tuple 1 t l its.toArray n dd sl)
        ⟨ho, rfl, ⟨_, ho, rfl⟩, call_meets F.slot_tuple_mul ⟨_, ho, rfl⟩ F.entry_tuple_mul
          (F.args_tuple_mul_2 _ _) (mul_same l its.toArray n dd sl t) ⟨ho, ?_⟩⟩)
    exact ⟨.ref l, H, I, rfl, q l H (Same.refl _) (by rw [hT, List.replicate_one, List.flatten_cons, List.flatten_nil, List.append_nil])⟩
  · refine wpAny_binaryOp_repeat_ref (T := "tuple") (U := "int") (by decide) ⟨_, ho, rfl⟩
      (fun s' => typeIs_int s' 0 t) noFill_tuple_mul F.fills_int_mul F.slot_int_rmul
      repeat_tuple F.slot_int_index.lookup (call_meets F.slot_int_rmul (typeIs_int s 0 t)
        F.entry_int_rmul (F.args_int_rmul_2 _ _) (int_rmul_tuple 0 t l its.toArray n dd sl)
        ⟨ho, rfl, ⟨_, ho, rfl⟩, call_meets F.slot_tuple_mul ⟨_, ho, rfl⟩ F.entry_tuple_mul
          (F.args_tuple_mul_2 _ _) (mul_none l its.toArray n dd sl t ne) ⟨ho, ?_⟩⟩)
    refine ⟨.ref s.heap.objs.size, upd H s.heap.objs.size (.tup []), I.laid (t' := s.toks) (fun b ob e => Heap.get?_push_of_some _ e) (Nat.le_refl _) ?_, rfl, q _ _ (same_upd (I.hok.fresh (Nat.le_refl _))) (by rw [upd_same]; rfl)⟩
    exact ⟨Nat.zero_le _, _, .nil, IsTup.new _ _⟩
theorem rd_repA {x y : V} {H : Hp} {Q : VK} : rRepA x y H Q = ∃ (l : Addr) (k : Nat) (xs : List V), x = .ref l ∧ y = .int k ∧ H l = some (.tup xs) ∧ xs ≠ [] ∧ k ≤ 1000 ∧ xs.length ≤ 1000 ∧
  ∀ p H', Same H H' → H' p = some (.tup (List.replicate k xs).flatten) → Q (.ref p) H' := rfl
end CB
namespace L60
open PySem PySem.Spec PyProof.Rows L2 CB
def top (i : Nat) : Stmt := PySem.Challenge.pw_classledger_k60_series_added_and_multipl.main.body.getD i (.Pass ⟨0, 0, 0, 0⟩)
structure Bl (mg : Str → Option Value) : Prop where
  abs : mg "abs" = none
  int : mg "int" = none
  bool : mg "bool" = none
  tuple : mg "tuple" = none
  list : mg "list" = none
  max : mg "max" = none
  min : mg "min" = none
  range : mg "range" = none
  sorted : mg "sorted" = none
  isinstance : mg "isinstance" = none
  len : mg "len" = none
  all : mg "all" = none
  zip : mg "zip" = none
  enumerate : mg "enumerate" = none
  set : mg "set" = none
  c_LONGEST : ∃ t, mg "LONGEST" = some (.int 400 t)
local macro_rules | `(tactic| walk_at "rd") => `(tactic| simp (maxSteps := 2000000) only [CB.rd_var, CB.rd_C, CB.rd_op, CB.rd_un, CB.rd_I, CB.rd_I0, CB.rd_U, CB.rd_Eq, CB.rd_Ne, CB.rd_test, CB.rd_B, CB.rd_and, CB.rd_or, CB.rd_not, CB.rd_andV, CB.rd_orV, CB.rd_notV, CB.rd_if, CB.rd_chain, CB.rd_chain3,
  CB.rd_next, CB.rd_seq, CB.rd_drop, CB.rd_ret, CB.rd_retN, CB.rd_break, CB.rd_cont, CB.rd_ifS, CB.rd_asg, CB.rd_name, CB.rd_gsub, CB.rd_gtup, CB.rd_gcons, CB.rd_gnil, CB.rd_par, CB.rd_aug, CB.rd_ipI, CB.rd_nil, CB.rd_cons, CB.rd_tup, CB.rd_lst, CB.rd_CB, CB.rd_call, CB.rd_callS, CB.rd_ixL, CB.rd_ixT, CB.rd_setL, CB.rd_putS, CB.rd_forZ, CB.rd_lcZ, CB.rd_forE, CB.rd_isqrt, CB.rd_sum, CB.rd_append, CB.rd_forL, CB.rd_forT, CB.rd_forR1, CB.rd_forR2, CB.rd_forR3, CB.rd_lcL, CB.rd_lcT, CB.rd_lcR1, CB.rd_lcR2, CB.rd_yes, CB.rd_sl, CB.rd_noPart, CB.rd_part, CB.rd_slL, CB.rd_wipe0, CB.rd_rep, CB.rd_tupOf, CB.rd_lenS, CB.rd_gcd, CB.rd_wipe1, CB.rd_sorted3, CB.rd_any, CB.rd_all, CB.rd_ext, CB.rd_glst, CB.rd_sortedM, CB.rd_minD, CB.rd_indexD, CB.rd_pop, CB.rd_dnew, CB.rd_dget, CB.rd_dget2, CB.rd_dput, CB.rd_dm, CB.rd_catA, CB.rd_slA, CB.rd_repT, CB.rd_anyI,
  L2.start, List.map_cons, List.map_nil, List.length_cons, List.length_nil, Nat.reduceAdd, Nat.reduceSub, List.replicate_succ, List.replicate_zero,
  V.int.injEq, V.ref.injEq, V.bl.injEq, V.str.injEq, Option.some.injEq, List.cons.injEq, exists_and_left, exists_eq_left', exists_eq_left, reduceCtorEq, false_and, and_false, or_false, false_or, exists_false, exists_const, and_assoc, true_and, and_true,
  CB.scal_int, CB.scal_str, CB.dec_ii, CB.ite_dec, CB.ite_ndec, List.getElem?_cons_zero, List.getElem?_cons_succ, List.set_cons_zero, List.set_cons_succ, List.append_nil, List.cons_append, List.nil_append, if_true, if_false, Bool.false_eq_true, Bool.not_true, Bool.not_false, CB.K_nox, CB.K_cxOf, eq_self])
local macro_rules | `(tactic| walk_at "rs") => `(tactic| simp (maxSteps := 2000000) only [CB.rd_var, CB.rd_C, CB.rd_op, CB.rd_un, CB.rd_I, CB.rd_I0, CB.rd_U, CB.rd_Eq, CB.rd_Ne, CB.rd_test, CB.rd_B, CB.rd_and, CB.rd_or, CB.rd_not, CB.rd_andV, CB.rd_orV, CB.rd_notV, CB.rd_if, CB.rd_chain, CB.rd_chain3,
  CB.rd_next, CB.rd_drop, CB.rd_ret, CB.rd_retN, CB.rd_break, CB.rd_cont, CB.rd_ifS, CB.rd_asg, CB.rd_name, CB.rd_gsub, CB.rd_gtup, CB.rd_gcons, CB.rd_gnil, CB.rd_par, CB.rd_aug, CB.rd_ipI, CB.rd_nil, CB.rd_cons, CB.rd_tup, CB.rd_lst, CB.rd_CB, CB.rd_call, CB.rd_callS, CB.rd_ixL, CB.rd_ixT, CB.rd_setL, CB.rd_putS, CB.rd_forZ, CB.rd_lcZ, CB.rd_forE, CB.rd_isqrt, CB.rd_sum, CB.rd_append, CB.rd_forL, CB.rd_forT, CB.rd_forR1, CB.rd_forR2, CB.rd_forR3, CB.rd_lcL, CB.rd_lcT, CB.rd_lcR1, CB.rd_lcR2, CB.rd_yes, CB.rd_sl, CB.rd_noPart, CB.rd_part, CB.rd_slL, CB.rd_wipe0, CB.rd_rep, CB.rd_tupOf, CB.rd_lenS, CB.rd_gcd, CB.rd_wipe1, CB.rd_sorted3, CB.rd_any, CB.rd_all, CB.rd_ext, CB.rd_glst, CB.rd_sortedM, CB.rd_minD, CB.rd_indexD, CB.rd_pop, CB.rd_dnew, CB.rd_dget, CB.rd_dget2, CB.rd_dput, CB.rd_dm, CB.rd_catA, CB.rd_slA, CB.rd_repT, CB.rd_anyI,
  L2.start, List.map_cons, List.map_nil, List.length_cons, List.length_nil, Nat.reduceAdd, Nat.reduceSub, List.replicate_succ, List.replicate_zero,
  V.int.injEq, V.ref.injEq, V.bl.injEq, V.str.injEq, Option.some.injEq, List.cons.injEq, exists_and_left, exists_eq_left', exists_eq_left, reduceCtorEq, false_and, and_false, or_false, false_or, exists_false, exists_const, and_assoc, true_and, and_true,
  CB.scal_int, CB.scal_str, CB.dec_ii, CB.ite_dec, CB.ite_ndec, List.getElem?_cons_zero, List.getElem?_cons_succ, List.set_cons_zero, List.set_cons_succ, List.append_nil, List.cons_append, List.nil_append, if_true, if_false, Bool.false_eq_true, Bool.not_true, Bool.not_false, CB.K_nox, CB.K_cxOf, eq_self])

local macro_rules | `(tactic| walk_at "nx") => `(tactic| (show tSeq _ _ _ _ _; rw [CB.rd_seq]; walk_at "rs"))


section
variable {P : Program} {w : World} {K : PySem.W.Frag} {mg : Str → Option Value} {base : Heap}
/-! ### the draws -/
abbrev s__law_take : Stmt := top 29
theorem sc__law_take : FnScope ["state", "m", "value"] ["state", "m"] (defScope s__law_take) := ⟨rfl, rfl, rfl, by decide +kernel, rfl, by decide +kernel, by decide +kernel⟩

def spTake : Sp := fun vs H Q _ => ∃ (a : Addr) (x y m : Int), vs = [.ref a, .int m] ∧ H a = some (.lst [.int x, .int y]) ∧ 0 < m ∧ m.natAbs.log2 < 9000 ∧
  ∀ v x' y' : Int, 0 ≤ v → v < m → Q (.int v) (upd H a (.lst [.int x', .int y']))
theorem cal_take (D : Dn K mg "_law_take" s__law_take ["state", "m"]) (B : Bl mg) : Cal P w K mg base "_law_take" 1 ["state", "m"] spTake := by
  refine D.cal sc__law_take (fun vs H Q E h => ?_) (fun f cdv A outer s H vs Q E hr h => ?_)
  · obtain ⟨a, x, y, m, rfl, _⟩ := h
    rfl
  · obtain ⟨a, x, y, m, rfl, ha, hm, hz, q⟩ := h
    refine ⟨_, (pss_cons (ps_if (pt_cmpR op_gt (pe_ix ix_list (pv 0) pe_int (fun _ _ => rfl)) pe_int (nomark _)) (pss_cons (ps_set (i := 2) sc__law_take.nd rfl (Or.inl rfl) (pe_op op_mod (pe_callTy call_int1 rfl B.int boot_int (pa_cons (pe_ix ix_list (pv 0) pe_int (fun _ _ => rfl)) pa_nil)) (pv 1)))
  (pss_cons (ps_asg (pe_op op_fdivW (pe_ix ix_list (pv 0) pe_int (fun _ _ => rfl)) (pv 1)) (pg_sub (pv 0) pe_int set_list))
  (pss_one (ps_ret (pv 2))))) pss_nil)
  (pss_cons (ps_asg (pe_op op_mod (pe_callTy call_int1 rfl B.int boot_int (pa_cons (pe_op op_add (pe_op op_mulI (pe_ix ix_list (pv 0) pe_int (fun _ _ => rfl)) pe_int) pe_int) pa_nil)) pe_int) (pg_sub (pv 0) pe_int set_list))
  (pss_one (ps_ret (pe_op op_mod (pe_callTy call_int1 rfl B.int boot_int (pa_cons (pe_op op_fdivW (pe_ix ix_list (pv 0) pe_int (fun _ _ => rfl)) pe_int) pa_nil)) (pv 1)))))), ?_⟩
    walk_at "rd"
    refine ⟨_, SqL.of ha, _, rfl, _, rfl, ite2 (fun h => ?_) (fun h => ?_)⟩
    · refine ⟨_, SqL.of ha, _, rfl, .inl ⟨_, rfl, hm, _, SqL.of ha, _, rfl, _, rfl, ⟨hm, hz⟩, _, ha, _, rfl, ?_⟩⟩
      exact q _ _ _ (Int.emod_nonneg _ (by omega)) (Int.emod_lt_of_pos _ hm)
    · refine ⟨_, SqL.of ha, _, rfl, _, rfl, mulR (by decide), by decide, _, ha, _, rfl, _, SqL.of upd_same, _, rfl, _, rfl, ⟨by decide, by decide +kernel⟩, hm, ?_⟩
      exact q _ _ _ (Int.emod_nonneg _ (by omega)) (Int.emod_lt_of_pos _ hm)
abbrev s__law_state : Stmt := top 26
theorem sc__law_state : FnScope ["script", "seed", "total", "cell"] ["script"] (defScope s__law_state) := ⟨rfl, rfl, rfl, by decide +kernel, rfl, by decide +kernel, by decide +kernel⟩

def spState (K : PySem.W.Frag) : Sp := fun vs H Q _ => ∃ (a : Addr) (ns : List Int), vs = [.ref a] ∧ SqL K H a (ns.map V.int) ∧ ns.length ≤ 63 ∧
  ∀ (p : Addr) (x y : Int) (H' : Hp), Same H H' → H p = none → H' p = some (.lst [.int x, .int y]) → Q (.ref p) H'
theorem cutV63 {ns : List Int} (h : ns.length ≤ 63) : cutV (ns.map V.int) none (some 63) = ns.map V.int := by
  unfold cutV
  rw [HT.sIx_none, show HT.sIx (ns.map V.int).length (ns.map V.int).length (some 63) = min 63 (ns.map V.int).length from HT.sIx_nat _ _ 63, List.length_map, List.drop_zero]
  rw [show min 63 ns.length - 0 = (ns.map V.int).length by rw [List.length_map]; omega, List.take_length]
theorem cal_state (D : Dn K mg "_law_state" s__law_state ["script"]) (B : Bl mg) : Cal P w K mg base "_law_state" 1 ["script"] (spState K) := by
  refine D.cal sc__law_state (fun vs H Q E h => ?_) (fun f cdv A outer s H vs Q E hr h => ?_)
  · obtain ⟨a, ns, rfl, _⟩ := h
    rfl
  · obtain ⟨a, ns, rfl, hS, hl, q⟩ := h
    refine ⟨_, (pss_cons (ps_set (i := 1) sc__law_state.nd rfl (Or.inl rfl) pe_int)
  (pss_cons (ps_set (i := 2) sc__law_state.nd rfl (Or.inl rfl) pe_int)
  (pss_cons (ps_for PassesOwn.never rfl (pi_list (pe_slice sl_list (pv 0) po_none (po_some pe_int))) (pg_name (i := 3) sc__law_state.nd rfl (Or.inl rfl)) (pss_cons (ps_set (i := 1) sc__law_state.nd rfl (Or.inl rfl) (pe_op op_add (pe_op op_mulI (pv 1) pe_int) (pe_callB call_abs rfl B.abs (by decide +kernel) (pa_cons (pv 3) pa_nil))))
  (pss_one (ps_set (i := 2) sc__law_state.nd rfl (Or.inl rfl) (pe_op op_mod (pe_callTy call_int1 rfl B.int boot_int (pa_cons (pe_op op_add (pe_op op_mulI (pv 2) pe_int) (pv 3)) pa_nil)) pe_int)))))
  (pss_one (ps_ret (pe_lst (pa_cons (pv 1) (pa_cons (pv 2) pa_nil)))))))), ?_⟩
    walk_at "rd"
    refine ⟨_, hS, fun c nc => ?_⟩
    rw [cutV63 hl]
    have hc : SqL K (upd H c (.lst (ns.map V.int))) c (ns.map V.int) := SqL.of upd_same
    refine ⟨⟨_, hc⟩, ForL.mk (xs := ns.map V.int) (fun _ σ H' => ∃ x y z, σ = [some (.ref a), some (.int x), some (.int y), z] ∧ H' = upd H c (.lst (ns.map V.int))) ⟨_, _, _, rfl, rfl⟩ ?_ ?_ ?_⟩
    · rintro i σ H' _ ⟨x, y, z, rfl, rfl⟩
      exact hc
    · rintro i v σ H' hv ⟨x, y, z, rfl, rfl⟩
      rw [List.getElem?_map] at hv
      obtain ⟨n, _, rfl⟩ := Option.map_eq_some_iff.mp hv
      walk_at "rd"
      exact ⟨mulR (by decide), mulR (by decide), by decide, _, rfl⟩
    · rintro σ H' ⟨x, y, z, rfl, rfl⟩
      walk_at "rd"
      refine ⟨by decide, fun p np => q p x y _ ((same_upd nc).trans (same_upd np)) ((same_upd nc).free np) upd_same⟩
/-! ### kinds of values -/
def kinds : List String := ["int", "bool", "NoneType", "str", "tuple", "list"]
theorem kit_k {T c : String} (hT : T ∈ kinds) (hc : c ∈ ["int", "bool", "str", "tuple"]) : kitB T c = some (T == c || (T == "bool" && c == "int")) := by
  unfold kinds at hT
  simp only [List.mem_cons, List.not_mem_nil, or_false] at hT hc
  rcases hT with rfl | rfl | rfl | rfl | rfl | rfl <;> rcases hc with rfl | rfl | rfl | rfl <;> decide +kernel
abbrev s_is_integer : Stmt := top 4
theorem sc_is_integer : FnScope ["value"] ["value"] (defScope s_is_integer) := ⟨rfl, rfl, rfl, by decide +kernel, rfl, by decide +kernel, by decide +kernel⟩

def spInt (K : PySem.W.Frag) : Sp := fun vs H Q _ => ∃ (v : V) (T : String), vs = [v] ∧ TyX K H v (.type T) ∧ T ∈ kinds ∧ Q (.bl (T == "int")) H
theorem cal_is_integer (D : Dn K mg "is_integer" s_is_integer ["value"]) (B : Bl mg) : Cal P w K mg base "is_integer" 1 ["value"] (spInt K) := by
  refine D.cal sc_is_integer (fun vs H Q E h => ?_) (fun f cdv A outer s H vs Q E hr h => ?_)
  · obtain ⟨v, T, rfl, _⟩ := h
    rfl
  · obtain ⟨v, T, rfl, ty, hT, q⟩ := h
    refine ⟨_, (pss_one (ps_ret (pe_and (pe_callB call_isi rfl B.isinstance (by decide +kernel) (pa_cons (pv 0) (pa_cons (pe_bltn (v := .ty "int") rfl B.int boot_int rfl) pa_nil))) (pe_one (pe_not (pe_callB call_isi rfl B.isinstance (by decide +kernel) (pa_cons (pv 0) (pa_cons (pe_bltn (v := .ty "bool") rfl B.bool boot_bool rfl) pa_nil)))))))), ?_⟩
    walk_at "rd"
    refine isi_mk ty (kit_k hT (by simp)) ⟨_, rfl, ite2 (fun h => ?_) (fun h => ?_)⟩
    · refine isi_mk ty (kit_k hT (by simp)) ⟨_, rfl, ?_⟩
      rw [show (!(T == "bool" || (T == "bool" && "bool" == "int"))) = (T == "int") from ?_]
      · exact q
      · unfold kinds at hT
        simp only [List.mem_cons, List.not_mem_nil, or_false] at hT
        rcases hT with rfl | rfl | rfl | rfl | rfl | rfl <;> revert h <;> decide +kernel
    · rw [show false = (T == "int") from ?_]
      · exact q
      · unfold kinds at hT
        simp only [List.mem_cons, List.not_mem_nil, or_false] at hT
        rcases hT with rfl | rfl | rfl | rfl | rfl | rfl <;> revert h <;> decide +kernel
end

section
variable {P : Program} {w : World} {K : PySem.W.Frag} {mg : Str → Option Value} {base : Heap}
abbrev s__law_is_number : Stmt := top 30
theorem sc__law_is_number : FnScope ["value"] ["value"] (defScope s__law_is_number) := ⟨rfl, rfl, rfl, by decide +kernel, rfl, by decide +kernel, by decide +kernel⟩

theorem cal_num (D : Dn K mg "_law_is_number" s__law_is_number ["value"]) (B : Bl mg) : Cal P w K mg base "_law_is_number" 1 ["value"] (spInt K) := by
  refine D.cal sc__law_is_number (fun vs H Q E h => ?_) (fun f cdv A outer s H vs Q E hr h => ?_)
  · obtain ⟨v, T, rfl, _⟩ := h
    rfl
  · obtain ⟨v, T, rfl, ty, hT, q⟩ := h
    refine ⟨_, (pss_one (ps_ret (pe_and (pe_callB call_isi rfl B.isinstance (by decide +kernel) (pa_cons (pv 0) (pa_cons (pe_bltn (v := .ty "int") rfl B.int boot_int rfl) pa_nil))) (pe_one (pe_not (pe_callB call_isi rfl B.isinstance (by decide +kernel) (pa_cons (pv 0) (pa_cons (pe_bltn (v := .ty "bool") rfl B.bool boot_bool rfl) pa_nil)))))))), ?_⟩
    walk_at "rd"
    refine isi_mk ty (kit_k hT (by simp)) ⟨_, rfl, ite2 (fun h => ?_) (fun h => ?_)⟩
    · refine isi_mk ty (kit_k hT (by simp)) ⟨_, rfl, ?_⟩
      rw [show (!(T == "bool" || (T == "bool" && "bool" == "int"))) = (T == "int") from ?_]
      · exact q
      · unfold kinds at hT
        simp only [List.mem_cons, List.not_mem_nil, or_false] at hT
        rcases hT with rfl | rfl | rfl | rfl | rfl | rfl <;> revert h <;> decide +kernel
    · rw [show false = (T == "int") from ?_]
      · exact q
      · unfold kinds at hT
        simp only [List.mem_cons, List.not_mem_nil, or_false] at hT
        rcases hT with rfl | rfl | rfl | rfl | rfl | rfl <;> revert h <;> decide +kernel
end

/-! ### rows and forms recognized -/
section
variable {P : Program} {w : World} {K : PySem.W.Frag} {mg : Str → Option Value} {base : Heap} {CM CR : Addr}
/-- the kinds of a row's items, now and later -/
def Its (K : PySem.W.Frag) (H : Hp) (xs : List V) (ts : List String) : Prop := ts.length = xs.length ∧ ∀ (i : Nat) (x : V) (t : String), xs[i]? = some x → ts[i]? = some t → (∀ H', Same H H' → TyX K H' x (.type t)) ∧ t ∈ kinds
/-- no tuple -/
def NoTup (K : PySem.W.Frag) (H : Hp) (v : V) : Prop := ∃ T, TyX K H v (.type T) ∧ T ∈ kinds ∧ (T == "tuple") = false
abbrev s_is_row : Stmt := top 6
theorem sc_is_row : FnScope ["value", "n", "item"] ["value", "n"] (defScope s_is_row) := ⟨rfl, rfl, rfl, by decide +kernel, rfl, by decide +kernel, by decide +kernel⟩

def spRow (K : PySem.W.Frag) : Sp := fun vs H Q _ => ∃ (v : V) (n : Nat), vs = [v, .int (n : Int)] ∧
  ((NoTup K H v ∧ Q (.bl false) H) ∨
   ∃ (p : Addr) (xs : List V) (ts : List String), v = .ref p ∧ H p = some (.tup xs) ∧ Its K H xs ts ∧ xs.length < 1000 ∧ ∀ H', Same H H' → Q (.bl (decide (xs.length = n) && ts.all (· == "int"))) H')
theorem cal_row (D : Dn K mg "is_row" s_is_row ["value", "n"]) (B : Bl mg) (c_is_integer : Cal P w K mg base "is_integer" 1 ["value"] (spInt K)) : Cal P w K mg base "is_row" 2 ["value", "n"] (spRow K) := by
  refine D.cal sc_is_row (fun vs H Q E h => ?_) (fun f cdv A outer s H vs Q E hr h => ?_)
  · obtain ⟨v, n, rfl, _⟩ := h
    rfl
  · obtain ⟨v, n, rfl, h⟩ := h
    refine ⟨_, (pss_one (ps_ret (pe_and (pe_callB call_isi rfl B.isinstance (by decide +kernel) (pa_cons (pv 0) (pa_cons (pe_bltn (v := .ty "tuple") rfl B.tuple boot_tuple rfl) pa_nil))) (pe_and (pe_cmpR op_eq (pe_callB cr_lenS rfl B.len (by decide +kernel) (pa_cons (pv 0) pa_nil)) (pv 1) (nomark _)) (pe_one (pe_callB (cr_all rfl) rfl B.all (by decide +kernel) (pa_cons (pe_lc (own := [("item", 2)]) rfl sc_is_row.nd (pi_tup (pv 0)) (blkOk_by (N := ["value", "n", "item"]) (sc := defScope s_is_row) (own := [("item", 2)]) (by decide +kernel)) (fun _ _ _ _ _ => (pg_name (i := 2) sc_is_row.nd rfl (Or.inl rfl))) (fun _ _ _ _ _ => pts_nil) (fun _ _ _ _ _ => (pe_cal c_is_integer (hr.mono (by decide)) rfl (pa_cons (pv 2) pa_nil)))) pa_nil))))))), ?_⟩
    walk_at "rd"
    rcases h with ⟨⟨T, ty, hT, hi⟩, q⟩ | ⟨p, xs, ts, rfl, hp, ⟨hl, hty⟩, hx, q⟩
    · refine isi_mk ty (kit_k hT (by simp)) ⟨false, ?_, ?_⟩
      · rw [hi, show ("tuple" == "int") = false by decide, Bool.and_false, Bool.or_false]
      rw [if_neg Bool.false_ne_true]
      exact q
    · refine isi_mk (.base (.tup hp)) (b := true) (by decide +kernel) ⟨true, rfl, ?_⟩
      rw [if_pos rfl]
      refine ⟨xs.length, .inr ⟨_, SqT.of hp, rfl⟩, ite2 (fun c => ?_) (fun c => ?_)⟩
      · have hc : xs.length = n := Int.ofNat_inj.mp c
        refine ⟨p, rfl, ⟨_, SqT.of hp⟩, LcT.w (xs := xs) (fun i D zs H3 => zs = ((ts.take i).map (· == "int")).map V.bl ∧ i ≤ xs.length ∧ Same H H3 ∧ H3 D = some (.lst zs) ∧ H D = none) (fun D nD => ⟨rfl, Nat.zero_le _, same_upd nD, upd_same, nD⟩) ?_ ?_ ?_⟩
        · rintro D i zs H3 _ ⟨_, _, sm, _, _⟩
          exact SqT.of (sm _ _ hp)
        · rintro D i x zs H3 hv ⟨rfl, hi, sm, hD, nD⟩ N hN
          have hix : i < xs.length := (List.getElem?_eq_some_iff.mp hv).1
          obtain ⟨t, ht⟩ : ∃ t, ts[i]? = some t := ⟨ts[i]'(by omega), List.getElem?_eq_getElem (by omega)⟩
          obtain ⟨ty, hk⟩ := hty i x t hv ht
          walk_at "rd"
          refine ⟨x, t, rfl, ty _ sm, hk, _, hD, ?_, hN _ _ ⟨?_, by omega, same_at sm nD, upd_same, nD⟩⟩
          · rw [List.length_map, List.length_map, List.length_take]
            exact small_size (by omega)
          · rw [List.take_add_one, ht, List.map_append, List.map_append]
            rfl
        · rintro D zs H3 nD ⟨rfl, _, sm, hD, _⟩
          rw [← hl, List.take_length] at hD
          refine ⟨D, rfl, _, SqL.of hD, ?_⟩
          have q' := q _ sm
          rw [decide_eq_true hc, Bool.true_and] at q'
          rw [List.all_map]
          exact q'
      · have q' := q _ (Same.refl H)
        rw [decide_eq_false (fun z => c (by rw [z])), Bool.false_and] at q'
        exact q'
end
section
variable {P : Program} {w : World} {K : PySem.W.Frag} {mg : Str → Option Value} {base : Heap} {CM : Addr}
/-! ### series, weights, indexes recognized -/
abbrev s__is_length : Stmt := top 11
theorem sc__is_length : FnScope ["value"] ["value"] (defScope s__is_length) := ⟨rfl, rfl, rfl, by decide +kernel, rfl, by decide +kernel, by decide +kernel⟩

def spLen : Sp := fun vs H Q _ => ∃ n : Int, vs = [.int n] ∧ Q (.bl (decide (1 ≤ n ∧ n ≤ 400))) H
theorem and2 {p q : Prop} [Decidable p] [Decidable q] : (decide p && decide q) = decide (p ∧ q) := by
  by_cases h : p <;> by_cases h' : q <;> simp [h, h']
theorem cal_len (D : Dn K mg "_is_length" s__is_length ["value"]) (B : Bl mg) (c_is_integer : Cal P w K mg base "is_integer" 1 ["value"] (spInt K)) : Cal P w K mg base "_is_length" 2 ["value"] spLen := by
  refine D.cal sc__is_length (fun vs H Q E h => ?_) (fun f cdv A outer s H vs Q E hr h => ?_)
  · obtain ⟨n, rfl, _⟩ := h
    rfl
  · obtain ⟨n, rfl, q⟩ := h
    refine ⟨_, (pss_one (ps_ret (pe_and (pe_cal c_is_integer (hr.mono (by decide)) rfl (pa_cons (pv 0) pa_nil)) (pe_one (pe_chain op_le op_le pe_int (pv 0) (pe_glob (v := .int 400) rfl B.c_LONGEST.choose_spec ⟨_, rfl⟩)))))), ?_⟩
    walk_at "rd"
    refine ⟨_, "int", rfl, .base (.int n), by decide, true, rfl, ?_⟩
    rw [if_pos rfl]
    rw [← and2] at q
    refine ite2 (fun c => ?_) (fun c => ?_)
    · rw [decide_eq_true c, Bool.true_and] at q
      exact q
    · rw [decide_eq_false c, Bool.false_and] at q
      exact q
abbrev s_is_series : Stmt := top 12
theorem sc_is_series : FnScope ["value"] ["value"] (defScope s_is_series) := ⟨rfl, rfl, rfl, by decide +kernel, rfl, by decide +kernel, by decide +kernel⟩

def serB (n : Nat) (ts : List String) : Bool := decide (1 ≤ n ∧ n ≤ 400) && ts.all (· == "int")
def spIsSer (K : PySem.W.Frag) : Sp := fun vs H Q _ => ∃ v : V, vs = [v] ∧ ((NoTup K H v ∧ Q (.bl false) H) ∨ ∃ (p : Addr) (xs : List V) (ts : List String), v = .ref p ∧ H p = some (.tup xs) ∧ Its K H xs ts ∧ xs.length < 1000 ∧ ∀ H', Same H H' → Q (.bl (serB xs.length ts)) H')
theorem cal_isser (D : Dn K mg "is_series" s_is_series ["value"]) (B : Bl mg) (c_is_row : Cal P w K mg base "is_row" 2 ["value", "n"] (spRow K)) (c__is_length : Cal P w K mg base "_is_length" 2 ["value"] spLen) : Cal P w K mg base "is_series" 3 ["value"] (spIsSer K) := by
  refine D.cal sc_is_series (fun vs H Q E h => ?_) (fun f cdv A outer s H vs Q E hr h => ?_)
  · obtain ⟨v, rfl, _⟩ := h
    rfl
  · obtain ⟨v, rfl, h⟩ := h
    refine ⟨_, (pss_one (ps_ret (pe_and (pe_callB call_isi rfl B.isinstance (by decide +kernel) (pa_cons (pv 0) (pa_cons (pe_bltn (v := .ty "tuple") rfl B.tuple boot_tuple rfl) pa_nil))) (pe_and (pe_cal c__is_length (hr.mono (by decide)) rfl (pa_cons (pe_callB cr_lenS rfl B.len (by decide +kernel) (pa_cons (pv 0) pa_nil)) pa_nil)) (pe_one (pe_cal c_is_row (hr.mono (by decide)) rfl (pa_cons (pv 0) (pa_cons (pe_callB cr_lenS rfl B.len (by decide +kernel) (pa_cons (pv 0) pa_nil)) pa_nil)))))))), ?_⟩
    walk_at "rd"
    rcases h with ⟨⟨T, ty, hT, hi⟩, q⟩ | ⟨p, xs, ts, rfl, hp, hI, hx, q⟩
    · refine isi_mk ty (kit_k hT (by simp)) ⟨false, ?_, ?_⟩
      · rw [hi, show ("tuple" == "int") = false by decide, Bool.and_false, Bool.or_false]
      rw [if_neg Bool.false_ne_true]
      exact q
    · refine isi_mk (.base (.tup hp)) (b := true) (by decide +kernel) ⟨true, rfl, ?_⟩
      rw [if_pos rfl]
      refine ⟨xs.length, .inr ⟨_, SqT.of hp, rfl⟩, ⟨_, rfl, ?_⟩⟩
      have q := q
      unfold serB at q
      refine ⟨_, rfl, ?_⟩
      have e0 : (decide (1 ≤ (xs.length : Int) ∧ (xs.length : Int) ≤ 400)) = decide (1 ≤ xs.length ∧ xs.length ≤ 400) := decide_eq_decide.mpr (by omega)
      rw [e0]
      refine ite2 (fun c => ?_) (fun c => ?_)
      · rw [c] at q
        refine ⟨xs.length, .inr ⟨_, SqT.of hp, rfl⟩, _, _, rfl, .inr ⟨p, xs, ts, rfl, hp, hI, hx, fun H' s => ?_⟩⟩
        rw [decide_eq_true rfl, Bool.true_and]
        have q' := q H' s
        rw [Bool.true_and] at q'
        exact q'
      · have c : decide (1 ≤ xs.length ∧ xs.length ≤ 400) = false := by simpa using c
        rw [c] at q
        exact q H (Same.refl H)
abbrev s_check_series : Stmt := top 14
theorem sc_check_series : FnScope ["f"] ["f"] (defScope s_check_series) := ⟨rfl, rfl, rfl, by decide +kernel, rfl, by decide +kernel, by decide +kernel⟩

/-- no series, or a series of ints -/
def BadS (K : PySem.W.Frag) (H : Hp) (v : V) : Prop := NoTup K H v ∨ ∃ (p : Addr) (xs : List V) (ts : List String), v = .ref p ∧ H p = some (.tup xs) ∧ Its K H xs ts ∧ xs.length < 1000 ∧ serB xs.length ts = false
def spChkS (K : PySem.W.Frag) (CM : Addr) : Sp := fun vs H Q E => ∃ v : V, vs = [v] ∧ ((BadS K H v ∧ ∀ H', Same H H' → E (.ref CM) none H') ∨ ∃ (p : Addr) (ns : List Int), v = .ref p ∧ H p = some (.tup (ns.map V.int)) ∧ 1 ≤ ns.length ∧ ns.length ≤ 400 ∧ ∀ H', Same H H' → Q .non H')
theorem its_ints {H : Hp} (ns : List Int) : Its K H (ns.map V.int) (ns.map fun _ => "int") := by
  refine ⟨by rw [List.length_map, List.length_map], fun i x t hx ht => ?_⟩
  rw [List.getElem?_map] at hx ht
  obtain ⟨n, hn, rfl⟩ := Option.map_eq_some_iff.mp hx
  rw [hn] at ht
  cases ht
  exact ⟨fun H' _ => .base (.int n), show "int" ∈ kinds by decide⟩
theorem all_ints (ns : List Int) : (ns.map fun _ => "int").all (· == "int") = true := by
  rw [List.all_map, List.all_eq_true]
  intro x _
  rfl
theorem cal_chks (D : Dn K mg "check_series" s_check_series ["f"]) (B : Bl mg) (c_is_series : Cal P w K mg base "is_series" 3 ["value"] (spIsSer K)) (e_E : ErrO K mg CM) : CalX P w K mg base "check_series" 4 ["f"] (spChkS K CM) := by
  refine D.calX sc_check_series (fun vs H Q E h => ?_) (fun f cdv A outer s H vs Q E hr h => ?_)
  · obtain ⟨v, rfl, _⟩ := h
    rfl
  · obtain ⟨v, rfl, h⟩ := h
    refine ⟨_, (pss_one (ps_if (pt_not (pt_val (pe_cal c_is_series (hr.mono (by decide)) rfl (pa_cons (pv 0) pa_nil)))) (pss_one (ps_mal e_E.m rfl (takes_of rfl rfl rfl rfl) rfl)) pss_nil)), ?_⟩
    walk_at "rd"
    rcases h with ⟨hn | ⟨p, xs, ts, rfl, hp, hI, hx, hb⟩, e⟩ | ⟨p, ns, rfl, hp, h1, h4, q⟩
    · exact ⟨v, rfl, .inl ⟨hn, _, rfl, e _ (Same.refl H)⟩⟩
    · refine ⟨_, rfl, .inr ⟨p, xs, ts, rfl, hp, hI, hx, fun H' s => ⟨_, rfl, ?_⟩⟩⟩
      rw [hb]
      exact e _ s
    · refine ⟨_, rfl, .inr ⟨p, _, _, rfl, hp, its_ints ns, by rw [List.length_map]; omega, fun H' s => ⟨_, rfl, ?_⟩⟩⟩
      have e1 : serB (ns.map V.int).length (ns.map fun _ => "int") = true := by
        unfold serB
        rw [all_ints, List.length_map, decide_eq_true ⟨h1, h4⟩]
        rfl
      rw [e1]
      exact q _ s
end

/-! ### series: sums by places -/
section
abbrev Ser := Nat → Int
def tl (a : Ser) : Ser := fun i => a (i + 1)
/-- the product of two series, place by place -/
def cv : Ser → Ser → Ser
  | a, b, 0 => a 0 * b 0
  | a, b, k + 1 => a 0 * b (k + 1) + cv (tl a) b k
def sadd (a b : Ser) : Ser := fun i => a i + b i
def smul (c : Int) (a : Ser) : Ser := fun i => c * a i
theorem cv_zero {a b : Ser} : cv a b 0 = a 0 * b 0 := by rw [cv]
theorem cv_succ {a b : Ser} {k : Nat} : cv a b (k + 1) = a 0 * b (k + 1) + cv (tl a) b k := by rw [cv]
theorem cv_congr : ∀ {k : Nat} {a a' b b' : Ser}, (∀ i, i ≤ k → a i = a' i) → (∀ i, i ≤ k → b i = b' i) → cv a b k = cv a' b' k
  | 0, a, a', b, b', h, h' => by rw [cv_zero, cv_zero, h 0 (Nat.le_refl 0), h' 0 (Nat.le_refl 0)]
  | k + 1, a, a', b, b', h, h' => by
    rw [cv_succ, cv_succ, h 0 (Nat.zero_le _), h' (k + 1) (Nat.le_refl _), cv_congr (k := k) (a := tl a) (a' := tl a') (fun i hi => h (i + 1) (by omega)) (fun i hi => h' i (by omega))]
theorem cv_addL : ∀ {k : Nat} {a a' b : Ser}, cv (sadd a a') b k = cv a b k + cv a' b k
  | 0, a, a', b => by rw [cv_zero, cv_zero, cv_zero]; exact Int.add_mul ..
  | k + 1, a, a', b => by
    rw [cv_succ, cv_succ, cv_succ]
    have : tl (sadd a a') = sadd (tl a) (tl a') := rfl
    rw [this, cv_addL]
    show (a 0 + a' 0) * b (k + 1) + _ = _
    grind
theorem cv_mulL : ∀ {k : Nat} {c : Int} {a b : Ser}, cv (smul c a) b k = c * cv a b k
  | 0, c, a, b => by rw [cv_zero, cv_zero]; exact Int.mul_assoc ..
  | k + 1, c, a, b => by
    rw [cv_succ, cv_succ]
    have : tl (smul c a) = smul c (tl a) := rfl
    rw [this, cv_mulL]
    show c * a 0 * b (k + 1) + _ = _
    grind
theorem cv_right : ∀ {k : Nat} {a b : Ser}, cv a b (k + 1) = cv a (tl b) k + a (k + 1) * b 0
  | 0, a, b => by rw [cv_succ, cv_zero, cv_zero]; rfl
  | k + 1, a, b => by
    rw [cv_succ, cv_right (k := k) (a := tl a), cv_succ]
    show _ + (_ + a (k + 1 + 1) * b 0) = (a 0 * b (k + 1 + 1) + _) + _
    grind
theorem cv_comm : ∀ {k : Nat} {a b : Ser}, cv a b k = cv b a k
  | 0, a, b => by rw [cv_zero, cv_zero, Int.mul_comm]
  | k + 1, a, b => by
    rw [cv_succ, cv_right, cv_comm (k := k) (a := tl a)]
    grind
theorem cv_assoc : ∀ {k : Nat} {a b c : Ser}, cv (cv a b) c k = cv a (cv b c) k
  | 0, a, b, c => by rw [cv_zero, cv_zero, cv_zero, cv_zero, Int.mul_assoc]
  | k + 1, a, b, c => by
    rw [cv_succ, cv_succ]
    have e : tl (cv a b) = sadd (smul (a 0) (tl b)) (cv (tl a) b) := by
      funext i
      show cv a b (i + 1) = a 0 * b (i + 1) + cv (tl a) b i
      exact cv_succ
    rw [e, cv_addL, cv_mulL, cv_assoc (k := k) (a := tl a), cv_zero, cv_succ]
    grind
/-- a single place -/
def dl (i : Nat) (c : Int) : Ser := fun j => if j = i then c else 0
theorem cv_null : ∀ {k : Nat} {b : Ser}, cv (fun _ => 0) b k = 0
  | 0, b => by rw [cv_zero, Int.zero_mul]
  | k + 1, b => by
    rw [cv_succ, Int.zero_mul, Int.zero_add]
    exact cv_null
theorem cv_dl : ∀ {k i : Nat} {c : Int} {b : Ser}, cv (dl i c) b k = if i ≤ k then c * b (k - i) else 0
  | 0, 0, c, b => by rw [cv_zero]; rfl
  | 0, i + 1, c, b => by
    rw [cv_zero, if_neg (by omega)]
    show (if 0 = i + 1 then c else 0) * _ = _
    rw [if_neg (by omega), Int.zero_mul]
  | k + 1, 0, c, b => by
    rw [cv_succ, if_pos (by omega)]
    have : tl (dl 0 c) = fun _ => 0 := by
      funext i
      show (if i + 1 = 0 then c else 0) = 0
      rw [if_neg (by omega)]
    rw [this, cv_null, Int.add_zero]
    rfl
  | k + 1, i + 1, c, b => by
    rw [cv_succ]
    have : tl (dl (i + 1) c) = dl i c := by
      funext j
      show (if j + 1 = i + 1 then c else 0) = if j = i then c else 0
      by_cases h : j = i
      · rw [if_pos h, if_pos (by omega)]
      · rw [if_neg h, if_neg (by omega)]
    rw [this, cv_dl]
    have h0 : dl (i + 1) c 0 = 0 := by
      show (if 0 = i + 1 then c else 0) = 0
      rw [if_neg (by omega)]
    rw [h0, Int.zero_mul, Int.zero_add]
    by_cases h : i ≤ k
    · rw [if_pos h, if_pos (by omega), show k + 1 - (i + 1) = k - i by omega]
    · rw [if_neg h, if_neg (by omega)]
/-- the places below i alone -/
def cutS (i : Nat) (a : Ser) : Ser := fun j => if j < i then a j else 0
theorem cut_zero {a : Ser} : cutS 0 a = fun _ => 0 := by
  funext j
  show (if j < 0 then a j else 0) = 0
  rw [if_neg (by omega)]
theorem cut_succ {i : Nat} {a : Ser} : cutS (i + 1) a = sadd (cutS i a) (dl i (a i)) := by
  funext j
  show (if j < i + 1 then a j else 0) = (if j < i then a j else 0) + (if j = i then a i else 0)
  rcases Nat.lt_trichotomy j i with h | h | h
  · rw [if_pos (by omega), if_pos h, if_neg (by omega), Int.add_zero]
  · subst h
    rw [if_pos (by omega), if_neg (by omega), if_pos rfl, Int.zero_add]
  · rw [if_neg (by omega), if_neg (by omega), if_neg (by omega), Int.add_zero]
theorem cv_cut_succ {i k : Nat} {a b : Ser} : cv (cutS (i + 1) a) b k = cv (cutS i a) b k + if i ≤ k then a i * b (k - i) else 0 := by
  rw [cut_succ, cv_addL, cv_dl]
theorem cv_cut {i k : Nat} {a b : Ser} (h : k < i) : cv (cutS i a) b k = cv a b k := cv_congr (fun j hj => by
  show (if j < i then a j else 0) = a j
  rw [if_pos (by omega)]) (fun _ _ => rfl)
/-- powers -/
def one : Ser := fun j => if j = 0 then 1 else 0
theorem cv_one {k : Nat} {b : Ser} : cv one b k = b k := by
  have : one = dl 0 1 := rfl
  rw [this, cv_dl, if_pos (Nat.zero_le k), Int.one_mul, Nat.sub_zero]
def pw (a : Ser) : Nat → Ser
  | 0 => one
  | n + 1 => cv (pw a n) a
theorem cv_funL {a b c : Ser} : cv (cv a b) c = cv a (cv b c) := funext fun _ => cv_assoc
theorem cv_funC {a b : Ser} : cv a b = cv b a := funext fun _ => cv_comm
theorem cv_one' {b : Ser} : cv one b = b := funext fun _ => cv_one
theorem pw_add {a : Ser} {m : Nat} : ∀ n, pw a (m + n) = cv (pw a m) (pw a n)
  | 0 => by
    show pw a m = cv (pw a m) one
    rw [cv_funC, cv_one']
  | n + 1 => by
    show cv (pw a (m + n)) a = cv (pw a m) (cv (pw a n) a)
    rw [pw_add n, cv_funL]
theorem pw_sq {a : Ser} : ∀ n, pw (cv a a) n = pw a (2 * n)
  | 0 => rfl
  | n + 1 => by
    show cv (pw (cv a a) n) (cv a a) = pw a (2 * n + 1 + 1)
    rw [pw_sq n]
    show _ = cv (cv (pw a (2 * n)) a) a
    rw [cv_funL]
theorem pw_one {a : Ser} : pw a 1 = a := by
  show cv one a = a
  exact cv_one'
theorem pw_half {a : Ser} {n : Nat} : pw a n = cv (if n % 2 = 1 then a else one) (pw (cv a a) (n / 2)) := by
  rw [pw_sq]
  split
  · have e : n = 1 + 2 * (n / 2) := by omega
    rw [show pw a n = pw a (1 + 2 * (n / 2)) from congrArg _ e, pw_add, pw_one]
  · rw [cv_one']
    congr 1
    omega
theorem pw_mul {a b : Ser} : ∀ n, pw (cv a b) n = cv (pw a n) (pw b n)
  | 0 => by
    show one = cv one one
    rw [cv_one']
  | n + 1 => by
    show cv (pw (cv a b) n) (cv a b) = cv (cv (pw a n) a) (cv (pw b n) b)
    rw [pw_mul n, cv_funL, cv_funL]
    congr 1
    rw [← cv_funL, cv_funC (a := pw b n), cv_funL]
/-- equal below N -/
def EqS (N : Nat) (a b : Ser) : Prop := ∀ k, k < N → a k = b k
theorem EqS.refl {N : Nat} {a : Ser} : EqS N a a := fun _ _ => rfl
theorem EqS.symm {N : Nat} {a b : Ser} (h : EqS N a b) : EqS N b a := fun k hk => (h k hk).symm
theorem EqS.trans {N : Nat} {a b c : Ser} (h : EqS N a b) (h' : EqS N b c) : EqS N a c := fun k hk => (h k hk).trans (h' k hk)
theorem EqS.cv {N : Nat} {a a' b b' : Ser} (h : EqS N a a') (h' : EqS N b b') : EqS N (cv a b) (cv a' b') := fun k hk => cv_congr (fun i hi => h i (by omega)) (fun i hi => h' i (by omega))
theorem EqS.pw {N : Nat} {a b : Ser} (h : EqS N a b) : ∀ n, EqS N (pw a n) (pw b n)
  | 0 => EqS.refl
  | n + 1 => EqS.cv (EqS.pw h n) h
/-! sizes -/
def nm (a : Ser) : Nat → Nat
  | 0 => 0
  | n + 1 => (a 0).natAbs + nm (tl a) n
theorem nm_mono : ∀ {m n : Nat} {a : Ser}, m ≤ n → nm a m ≤ nm a n
  | 0, n, a, _ => Nat.zero_le _
  | m + 1, n + 1, a, h => by
    show _ + nm (tl a) m ≤ _ + nm (tl a) n
    have := nm_mono (a := tl a) (show m ≤ n by omega)
    omega
theorem nm_at : ∀ {n k : Nat} {a : Ser}, k < n → (a k).natAbs ≤ nm a n
  | n + 1, 0, a, _ => Nat.le_add_right _ _
  | n + 1, k + 1, a, h => by
    have := nm_at (n := n) (k := k) (a := tl a) (by omega)
    show (a (k + 1)).natAbs ≤ (a 0).natAbs + nm (tl a) n
    exact Nat.le_trans this (Nat.le_add_left _ _)
theorem nm_add : ∀ {n : Nat} {a b : Ser}, nm (sadd a b) n ≤ nm a n + nm b n
  | 0, a, b => Nat.le_refl 0
  | n + 1, a, b => by
    have := nm_add (n := n) (a := tl a) (b := tl b)
    have e : tl (sadd a b) = sadd (tl a) (tl b) := rfl
    show (a 0 + b 0).natAbs + nm (tl (sadd a b)) n ≤ ((a 0).natAbs + nm (tl a) n) + ((b 0).natAbs + nm (tl b) n)
    rw [e]
    have := Int.natAbs_add_le (a 0) (b 0)
    omega
theorem nm_smul : ∀ {n : Nat} {c : Int} {a : Ser}, nm (smul c a) n = c.natAbs * nm a n
  | 0, c, a => rfl
  | n + 1, c, a => by
    have e : tl (smul c a) = smul c (tl a) := rfl
    show (c * a 0).natAbs + nm (tl (smul c a)) n = c.natAbs * ((a 0).natAbs + nm (tl a) n)
    rw [e, nm_smul, Int.natAbs_mul, Nat.mul_add]
theorem nm_ext : ∀ {n : Nat} {a b : Ser}, EqS n a b → nm a n = nm b n
  | 0, a, b, _ => rfl
  | n + 1, a, b, h => by
    show (a 0).natAbs + nm (tl a) n = (b 0).natAbs + nm (tl b) n
    rw [h 0 (by omega), nm_ext (n := n) (a := tl a) (b := tl b) fun k hk => h (k + 1) (by omega)]
/-- the sum of sizes of a product -/
theorem nm_cv : ∀ {n : Nat} {a b : Ser}, nm (cv a b) n ≤ nm a n * nm b n
  | 0, a, b => Nat.zero_le _
  | n + 1, a, b => by
    have e : tl (cv a b) = sadd (smul (a 0) (tl b)) (cv (tl a) b) := by
      funext i
      show cv a b (i + 1) = a 0 * b (i + 1) + cv (tl a) b i
      exact cv_succ
    show (cv a b 0).natAbs + nm (tl (cv a b)) n ≤ ((a 0).natAbs + nm (tl a) n) * ((b 0).natAbs + nm (tl b) n)
    rw [e, cv_zero, Int.natAbs_mul]
    have h1 := nm_add (n := n) (a := smul (a 0) (tl b)) (b := cv (tl a) b)
    rw [nm_smul] at h1
    have h2 := nm_cv (n := n) (a := tl a) (b := b)
    have h3 : nm b n ≤ (b 0).natAbs + nm (tl b) n := nm_mono (a := b) (Nat.le_succ n)
    have h4 : nm (tl a) n * nm b n ≤ nm (tl a) n * ((b 0).natAbs + nm (tl b) n) := Nat.mul_le_mul_left _ h3
    rw [Nat.add_mul, Nat.mul_add]
    omega
theorem nm_cut : ∀ {n i : Nat} {a : Ser}, nm (cutS i a) n ≤ nm a n
  | 0, i, a => Nat.le_refl 0
  | n + 1, 0, a => by
    rw [cut_zero]
    have : ∀ m, nm (fun _ => 0) m = 0 := fun m => by
      induction m with
      | zero => rfl
      | succ m ih => show (0 : Int).natAbs + nm (fun _ => 0) m = 0; rw [ih]; rfl
    rw [this]
    exact Nat.zero_le _
  | n + 1, i + 1, a => by
    have e : tl (cutS (i + 1) a) = cutS i (tl a) := by
      funext j
      show (if j + 1 < i + 1 then a (j + 1) else 0) = if j < i then a (j + 1) else 0
      by_cases h : j < i
      · rw [if_pos h, if_pos (by omega)]
      · rw [if_neg h, if_neg (by omega)]
    show (cutS (i + 1) a 0).natAbs + nm (tl (cutS (i + 1) a)) n ≤ (a 0).natAbs + nm (tl a) n
    rw [e]
    have := nm_cut (n := n) (i := i) (a := tl a)
    have : cutS (i + 1) a 0 = a 0 := by
      show (if 0 < i + 1 then a 0 else 0) = a 0
      rw [if_pos (by omega)]
    rw [this]
    omega
end

section
variable {P : Program} {w : World} {K : PySem.W.Frag} {mg : Str → Option Value} {base : Heap} {CM : Addr}
abbrev s__law_odd : Stmt := top 27
theorem sc__law_odd : FnScope ["value", "item"] ["value"] (defScope s__law_odd) := ⟨rfl, rfl, rfl, by decide +kernel, rfl, by decide +kernel, by decide +kernel⟩

theorem kit_tl {T : String} (hT : T ∈ kinds) : kitB T "tuple" = some (T == "tuple") ∧ kitB T "list" = some (T == "list") := by
  unfold kinds at hT
  simp only [List.mem_cons, List.not_mem_nil, or_false] at hT
  rcases hT with rfl | rfl | rfl | rfl | rfl | rfl <;> decide +kernel
theorem cal_oddN (D : Dn K mg "_law_odd" s__law_odd ["value"]) : Cal P w K mg base "_law_odd" 1 ["value"] spNev := by
  exact D.never sc__law_odd
def spOdd0 : Sp := fun vs H Q _ => ∃ n : Int, vs = [.int n] ∧ ∀ H', Same H H' → Q (.bl false) H'
theorem cal_odd0 (D : Dn K mg "_law_odd" s__law_odd ["value"]) (B : Bl mg) (c__law_odd : Cal P w K mg base "_law_odd" 1 ["value"] spNev) : Cal P w K mg base "_law_odd" 2 ["value"] spOdd0 := by
  refine D.cal sc__law_odd (fun vs H Q E h => ?_) (fun f cdv A outer s H vs Q E hr h => ?_)
  · obtain ⟨n, rfl, _⟩ := h
    rfl
  · obtain ⟨n, rfl, q⟩ := h
    refine ⟨_, (pss_cons (ps_if (pt_cmpR (op_eqD hr.units) (pv 0) pe_str (nomark _)) (pss_one (ps_ret pe_bl)) pss_nil)
  (pss_one (ps_ret (pe_and (pe_callB call_isiT rfl B.isinstance (by decide +kernel) (pa_cons (pv 0) (pa_cons (pe_tup (pa_cons (pe_bltn (v := .ty "tuple") rfl B.tuple boot_tuple rfl) (pa_cons (pe_bltn (v := .ty "list") rfl B.list boot_list rfl) pa_nil))) pa_nil))) (pe_one (pe_cmpR op_gt (pe_callB cr_lenS rfl B.len (by decide +kernel) (pa_cons (pe_lc (own := [("item", 1)]) rfl sc__law_odd.nd (pi_tup (pv 0)) (blkOk_by (N := ["value", "item"]) (sc := defScope s__law_odd) (own := [("item", 1)]) (by decide +kernel)) (fun _ _ _ _ _ => (pg_name (i := 1) sc__law_odd.nd rfl (Or.inl rfl))) (fun _ _ _ _ _ => (pts_one (pt_val (pe_cal c__law_odd (hr.mono (by decide)) rfl (pa_cons (pv 1) pa_nil))))) (fun _ _ _ _ _ => (pv 1))) pa_nil)) pe_int (nomark _))))))), ?_⟩
    walk_at "nx"
    refine ⟨.int n, .str _, .int n, .str _, rfl, by decide +kernel, ?_⟩
    rw [show PyData.eqv (.int n) (.str _) = false from rfl]
    refine ⟨_, rfl, ?_⟩
    rw [if_neg (by decide)]
    refine ⟨by decide, fun p np => isiT_mk upd_same (.base (.int n)) (b1 := false) (b2 := false) (by decide +kernel) (by decide +kernel) ⟨_, rfl, ?_⟩⟩
    exact q _ (same_upd np)
def spOdd1 : Sp := fun vs H Q _ => ∃ (p : Addr) (ns : List Int), vs = [.ref p] ∧ H p = some (.tup (ns.map V.int)) ∧ ns.length ≤ 10000000 ∧ ∀ H', Same H H' → Q (.bl false) H'
theorem cal_odd1 (D : Dn K mg "_law_odd" s__law_odd ["value"]) (B : Bl mg) (c__law_odd : Cal P w K mg base "_law_odd" 2 ["value"] spOdd0) : Cal P w K mg base "_law_odd" 3 ["value"] spOdd1 := by
  refine D.cal sc__law_odd (fun vs H Q E h => ?_) (fun f cdv A outer s H vs Q E hr h => ?_)
  · obtain ⟨p, ns, rfl, _⟩ := h
    rfl
  · obtain ⟨p, ns, rfl, hp, hl, q⟩ := h
    refine ⟨_, (pss_cons (ps_if (pt_cmpR (op_eqD hr.units) (pv 0) pe_str (nomark _)) (pss_one (ps_ret pe_bl)) pss_nil)
  (pss_one (ps_ret (pe_and (pe_callB call_isiT rfl B.isinstance (by decide +kernel) (pa_cons (pv 0) (pa_cons (pe_tup (pa_cons (pe_bltn (v := .ty "tuple") rfl B.tuple boot_tuple rfl) (pa_cons (pe_bltn (v := .ty "list") rfl B.list boot_list rfl) pa_nil))) pa_nil))) (pe_one (pe_cmpR op_gt (pe_callB cr_lenS rfl B.len (by decide +kernel) (pa_cons (pe_lc (own := [("item", 1)]) rfl sc__law_odd.nd (pi_tup (pv 0)) (blkOk_by (N := ["value", "item"]) (sc := defScope s__law_odd) (own := [("item", 1)]) (by decide +kernel)) (fun _ _ _ _ _ => (pg_name (i := 1) sc__law_odd.nd rfl (Or.inl rfl))) (fun _ _ _ _ _ => (pts_one (pt_val (pe_cal c__law_odd (hr.mono (by decide)) rfl (pa_cons (pv 1) pa_nil))))) (fun _ _ _ _ _ => (pv 1))) pa_nil)) pe_int (nomark _))))))), ?_⟩
    walk_at "nx"
    refine ⟨_, .str _, dp_I hp, .str _, shaped_ints _, by decide +kernel, ?_⟩
    rw [show PyData.eqv (dIs ns) (.str _) = false from rfl]
    refine ⟨_, rfl, ?_⟩
    rw [if_neg (by decide)]
    refine ⟨by decide, fun tp ntp => isiT_mk upd_same (.base (.tup (same_upd ntp _ _ hp))) (b1 := true) (b2 := false) (by decide +kernel) (by decide +kernel) ⟨_, rfl, ?_⟩⟩
    have s1 := same_upd (o := HO.tup [.ty "tuple", .ty "list"]) ntp
    have hp1 := s1 _ _ hp
    rw [if_pos (by decide)]
    refine ⟨⟨_, SqT.of hp1⟩, LcT.p (xs := ns.map V.int) (fun _ => none) (by rw [List.length_map]; exact hl) (fun H2 s2 => SqT.of (s2 _ _ hp1)) (fun i x hx H2 s2 M S hM hS => ?_) (fun D2 H2 nD s2 h2 => ?_)⟩
    · rw [List.getElem?_map] at hx
      obtain ⟨n, _, rfl⟩ := Option.map_eq_some_iff.mp hx
      walk_at "rs"
      exact ⟨n, rfl, fun H3 s3 => ⟨false, rfl, hS _ rfl s3⟩⟩
    · rw [show (List.range (ns.map V.int).length).filterMap (fun _ => (none : Option V)) = [] from List.filterMap_eq_nil_iff.mpr fun _ _ => rfl] at h2
      exact ⟨0, .inl ⟨_, SqL.of h2, rfl⟩, q _ (s1.trans s2)⟩
abbrev s__law_plain : Stmt := top 28
theorem sc__law_plain : FnScope ["value"] ["value"] (defScope s__law_plain) := ⟨rfl, rfl, rfl, by decide +kernel, rfl, by decide +kernel, by decide +kernel⟩

def spPl1 : Sp := fun vs H Q _ => ∃ (p : Addr) (ns : List Int), vs = [.ref p] ∧ H p = some (.tup (ns.map V.int)) ∧ ns.length ≤ 10000000 ∧ ∀ H', Same H H' → Q (.ref p) H'
theorem cal_pl1 (D : Dn K mg "_law_plain" s__law_plain ["value"]) (B : Bl mg) (c__law_odd : Cal P w K mg base "_law_odd" 3 ["value"] spOdd1) : Cal P w K mg base "_law_plain" 4 ["value"] spPl1 := by
  refine D.cal sc__law_plain (fun vs H Q E h => ?_) (fun f cdv A outer s H vs Q E hr h => ?_)
  · obtain ⟨p, ns, rfl, _⟩ := h
    rfl
  · obtain ⟨p, ns, rfl, hp, hl, q⟩ := h
    refine ⟨_, (pss_one (ps_ret (pe_ifExp (pt_val (pe_cal c__law_odd (hr.mono (by decide)) rfl (pa_cons (pv 0) pa_nil))) pe_str (pv 0)))), ?_⟩
    walk_at "rs"
    refine ⟨p, ns, rfl, hp, hl, fun H1 s1 => ⟨false, rfl, ?_⟩⟩
    rw [if_neg (by decide)]
    exact q _ s1
end

section
variable {P : Program} {w : World} {K : PySem.W.Frag} {mg : Str → Option Value} {base : Heap} {CM : Addr}
abbrev s__law_is_equal : Stmt := top 32
theorem sc__law_is_equal : FnScope ["value", "due", "k"] ["value", "due"] (defScope s__law_is_equal) := ⟨rfl, rfl, rfl, by decide +kernel, rfl, by decide +kernel, by decide +kernel⟩

theorem cal_eqN (D : Dn K mg "_law_is_equal" s__law_is_equal ["value", "due"]) : Cal P w K mg base "_law_is_equal" 1 ["value", "due"] spNev := by
  exact D.never sc__law_is_equal
def spEq0 : Sp := fun vs H Q _ => ∃ x y : Int, vs = [.int x, .int y] ∧ Q (.bl (decide (x = y))) H
theorem cal_eq0 (D : Dn K mg "_law_is_equal" s__law_is_equal ["value", "due"]) (B : Bl mg) (c__law_is_equal : Cal P w K mg base "_law_is_equal" 1 ["value", "due"] spNev) (c__law_is_number : Cal P w K mg base "_law_is_number" 1 ["value"] (spInt K)) : Cal P w K mg base "_law_is_equal" 2 ["value", "due"] spEq0 := by
  refine D.cal sc__law_is_equal (fun vs H Q E h => ?_) (fun f cdv A outer s H vs Q E hr h => ?_)
  · obtain ⟨x, y, rfl, _⟩ := h
    rfl
  · obtain ⟨x, y, rfl, q⟩ := h
    refine ⟨_, (pss_cons (ps_if (pt_val (pe_callB call_isi rfl B.isinstance (by decide +kernel) (pa_cons (pv 1) (pa_cons (pe_bltn (v := .ty "tuple") rfl B.tuple boot_tuple rfl) pa_nil)))) (pss_cons (ps_if (PW.pt (pw_or (pt_not (pt_val (pe_callB call_isi rfl B.isinstance (by decide +kernel) (pa_cons (pv 0) (pa_cons (pe_bltn (v := .ty "tuple") rfl B.tuple boot_tuple rfl) pa_nil))))) (pw_or1 (pt_cmpR op_ne (pe_callB cr_lenS rfl B.len (by decide +kernel) (pa_cons (pv 0) pa_nil)) (pe_callB cr_lenS rfl B.len (by decide +kernel) (pa_cons (pv 1) pa_nil)) (nomark _))))) (pss_one (ps_ret pe_bl)) pss_nil)
  (pss_one (ps_ret (pe_cmpR op_eq (pe_callB cr_lenS rfl B.len (by decide +kernel) (pa_cons (pe_lc (own := [("k", 2)]) rfl sc__law_is_equal.nd (pi_range1 rfl B.range (pa_cons (pe_callB cr_lenS rfl B.len (by decide +kernel) (pa_cons (pv 1) pa_nil)) pa_nil)) (blkOk_by (N := ["value", "due", "k"]) (sc := defScope s__law_is_equal) (own := [("k", 2)]) (by decide +kernel)) (fun _ _ _ _ _ => (pg_name (i := 2) sc__law_is_equal.nd rfl (Or.inl rfl))) (fun _ _ _ _ _ => (pts_one (pt_not (pt_val (pe_cal c__law_is_equal (hr.mono (by decide)) rfl (pa_cons (pe_ix (ix_tupK (K := K) rfl) (pv 0) (pv 2) (fun _ _ => rfl)) (pa_cons (pe_ix (ix_tupK (K := K) rfl) (pv 1) (pv 2) (fun _ _ => rfl)) pa_nil))))))) (fun _ _ _ _ _ => (pv 2))) pa_nil)) pe_int (nomark _))))) pss_nil)
  (pss_one (ps_ret (pe_and (pe_cal c__law_is_number (hr.mono (by decide)) rfl (pa_cons (pv 0) pa_nil)) (pe_one (pe_cmpR op_eq (pv 0) (pv 1) (nomark _))))))), ?_⟩
    walk_at "nx"
    refine isi_mk (.base (.int y)) (b := false) (by decide +kernel) ⟨_, rfl, ?_⟩
    rw [if_neg (by decide)]
    try walk_at "rs"
    exact ⟨_, "int", rfl, .base (.int x), by decide, _, rfl, by rw [if_pos (by decide)]; exact q⟩
theorem fm_nil {α β : Type} {l : List α} {y : α → Option β} : (l.filterMap y).length = 0 ↔ ∀ a ∈ l, y a = none := by
  rw [List.length_eq_zero_iff, List.filterMap_eq_nil_iff]
def spEq1 : Sp := fun vs H Q _ => ∃ (p d : Addr) (xs ys : List Int), vs = [.ref p, .ref d] ∧ H p = some (.tup (xs.map V.int)) ∧ H d = some (.tup (ys.map V.int)) ∧ ys.length ≤ 10000000 ∧ ∀ H', Same H H' → Q (.bl (decide (xs = ys))) H'
theorem cal_eq1 (D : Dn K mg "_law_is_equal" s__law_is_equal ["value", "due"]) (B : Bl mg) (c__law_is_equal : Cal P w K mg base "_law_is_equal" 2 ["value", "due"] spEq0) (c__law_is_number : Cal P w K mg base "_law_is_number" 1 ["value"] (spInt K)) : Cal P w K mg base "_law_is_equal" 3 ["value", "due"] spEq1 := by
  refine D.cal sc__law_is_equal (fun vs H Q E h => ?_) (fun f cdv A outer s H vs Q E hr h => ?_)
  · obtain ⟨p, d, xs, ys, rfl, _⟩ := h
    rfl
  · obtain ⟨p, d, xs, ys, rfl, hp, hd, hl, q⟩ := h
    refine ⟨_, (pss_cons (ps_if (pt_val (pe_callB call_isi rfl B.isinstance (by decide +kernel) (pa_cons (pv 1) (pa_cons (pe_bltn (v := .ty "tuple") rfl B.tuple boot_tuple rfl) pa_nil)))) (pss_cons (ps_if (PW.pt (pw_or (pt_not (pt_val (pe_callB call_isi rfl B.isinstance (by decide +kernel) (pa_cons (pv 0) (pa_cons (pe_bltn (v := .ty "tuple") rfl B.tuple boot_tuple rfl) pa_nil))))) (pw_or1 (pt_cmpR op_ne (pe_callB cr_lenS rfl B.len (by decide +kernel) (pa_cons (pv 0) pa_nil)) (pe_callB cr_lenS rfl B.len (by decide +kernel) (pa_cons (pv 1) pa_nil)) (nomark _))))) (pss_one (ps_ret pe_bl)) pss_nil)
  (pss_one (ps_ret (pe_cmpR op_eq (pe_callB cr_lenS rfl B.len (by decide +kernel) (pa_cons (pe_lc (own := [("k", 2)]) rfl sc__law_is_equal.nd (pi_range1 rfl B.range (pa_cons (pe_callB cr_lenS rfl B.len (by decide +kernel) (pa_cons (pv 1) pa_nil)) pa_nil)) (blkOk_by (N := ["value", "due", "k"]) (sc := defScope s__law_is_equal) (own := [("k", 2)]) (by decide +kernel)) (fun _ _ _ _ _ => (pg_name (i := 2) sc__law_is_equal.nd rfl (Or.inl rfl))) (fun _ _ _ _ _ => (pts_one (pt_not (pt_val (pe_cal c__law_is_equal (hr.mono (by decide)) rfl (pa_cons (pe_ix (ix_tupK (K := K) rfl) (pv 0) (pv 2) (fun _ _ => rfl)) (pa_cons (pe_ix (ix_tupK (K := K) rfl) (pv 1) (pv 2) (fun _ _ => rfl)) pa_nil))))))) (fun _ _ _ _ _ => (pv 2))) pa_nil)) pe_int (nomark _))))) pss_nil)
  (pss_one (ps_ret (pe_and (pe_cal c__law_is_number (hr.mono (by decide)) rfl (pa_cons (pv 0) pa_nil)) (pe_one (pe_cmpR op_eq (pv 0) (pv 1) (nomark _))))))), ?_⟩
    walk_at "nx"
    refine isi_mk (.base (.tup hd)) (b := true) (by decide +kernel) ⟨_, rfl, ?_⟩
    rw [if_pos rfl]
    walk_at "nx"
    refine isi_mk (.base (.tup hp)) (b := true) (by decide +kernel) ⟨_, rfl, ?_⟩
    rw [if_neg (by decide)]
    refine ⟨xs.length, .inr ⟨_, SqT.of hp, by rw [List.length_map]⟩, ys.length, .inr ⟨_, SqT.of hd, by rw [List.length_map]⟩, ite2 (fun c => ?_) (fun c => ?_)⟩
    · have : xs.length = ys.length := by omega
      refine ⟨ys.length, .inr ⟨_, SqT.of hd, by rw [List.length_map]⟩, by omega, by omega, ?_⟩
      rw [Int.toNat_natCast]
      refine LcR.p (fun k => if decide (xs.getD k 0 = ys.getD k 0) = true then none else some (V.int (0 + (k : Int)))) hl (fun k hk H1 s1 M S hM hS => ?_) (fun D2 H1 nD s1 h1 => ?_)
      · walk_at "rs"
        have e1 : (0 + (k : Int)) = (k : Int) := by omega
        rw [e1] at *
        refine ⟨_, SqT.of (s1 _ _ hp), .int (xs.getD k 0), ?_, _, SqT.of (s1 _ _ hd), .int (ys.getD k 0), ?_, _, _, rfl, _, rfl, ?_⟩
        · refine atI_nat ?_
          rw [List.getElem?_map, List.getElem?_eq_getElem (by omega), List.getD_eq_getElem?_getD, List.getElem?_eq_getElem (by omega)]
          rfl
        · refine atI_nat ?_
          rw [List.getElem?_map, List.getElem?_eq_getElem (by omega), List.getD_eq_getElem?_getD, List.getElem?_eq_getElem (by omega)]
          rfl
        · by_cases e : xs.getD k 0 = ys.getD k 0
          · rw [decide_eq_true e, if_neg (by decide)]
            exact hS _ (by rw [if_pos (decide_eq_true e)]) (Same.refl _)
          · rw [decide_eq_false e, if_pos (by decide)]
            exact hM _ _ (by rw [if_neg (by simpa using e), Int.zero_add]) (Same.refl _)
      · refine ⟨_, .inl ⟨_, SqL.of h1, rfl⟩, ?_⟩
        have e : decide ((((List.range ys.length).filterMap (fun k => if decide (xs.getD k 0 = ys.getD k 0) = true then none else some (V.int (0 + (k : Int))))).length : Int) = 0) = decide (xs = ys) := by
          refine decide_eq_decide.mpr ?_
          rw [show ∀ n : Nat, ((n : Int) = 0) = (n = 0) from fun n => propext (by omega), fm_nil]
          constructor
          · intro h
            refine List.ext_getElem this fun i h1 h2 => ?_
            have := h i (List.mem_range.mpr h2)
            by_cases c : xs.getD i 0 = ys.getD i 0
            · rw [List.getD_eq_getElem?_getD, List.getD_eq_getElem?_getD, List.getElem?_eq_getElem h1, List.getElem?_eq_getElem h2] at c
              exact c
            · rw [if_neg (by simpa using c)] at this
              cases this
          · rintro rfl
            intro a _
            rw [if_pos (by simp)]
        rw [e]
        exact q _ s1
    · have : xs ≠ ys := fun z => c (by rw [z])
      have q' := q H (Same.refl H)
      rw [decide_eq_false this] at q'
      exact q'
end

section
variable {P : Program} {w : World} {K : PySem.W.Frag} {mg : Str → Option Value} {base : Heap} {CM : Addr}
/-! ### series as tuples -/
def sr (ns : List Int) : Ser := fun i => ns.getD i 0
def mk (N : Nat) (a : Ser) : List Int := (List.range N).map a
theorem mk_len {N : Nat} {a : Ser} : (mk N a).length = N := by unfold mk; rw [List.length_map, List.length_range]
theorem mk_get {N k : Nat} {a : Ser} (h : k < N) : (mk N a)[k]? = some (a k) := by
  unfold mk
  rw [List.getElem?_map, List.getElem?_range h]
  rfl
theorem mk_sr (ns : List Int) : mk ns.length (sr ns) = ns := by
  refine List.ext_getElem? fun k => ?_
  rcases Nat.lt_or_ge k ns.length with h | h
  · rw [mk_get h]
    unfold sr
    rw [List.getD_eq_getElem?_getD, List.getElem?_eq_getElem h]
    rfl
  · rw [List.getElem?_eq_none (by rw [mk_len]; exact h), List.getElem?_eq_none h]
theorem mk_ext {N : Nat} {a b : Ser} (h : EqS N a b) : mk N a = mk N b := List.map_congr_left fun k hk => h k (List.mem_range.mp hk)
theorem sr_mk {N : Nat} {a : Ser} : EqS N (sr (mk N a)) a := fun k hk => by
  unfold sr
  rw [List.getD_eq_getElem?_getD, mk_get hk]
  rfl
theorem sr_get {ns : List Int} {k : Nat} {x : Int} (h : ns[k]? = some x) : sr ns k = x := by
  unfold sr
  rw [List.getD_eq_getElem?_getD, h]
  rfl
theorem ints_at {ns : List Int} {i : Nat} {x : V} (h : (ns.map V.int)[i]? = some x) : ∃ n, x = .int n ∧ ns[i]? = some n := by
  rw [List.getElem?_map] at h
  obtain ⟨n, hn, rfl⟩ := Option.map_eq_some_iff.mp h
  exact ⟨n, rfl, hn⟩
abbrev s_add : Stmt := top 7
theorem sc_add : FnScope ["v", "w", "a", "b"] ["v", "w"] (defScope s_add) := ⟨rfl, rfl, rfl, by decide +kernel, rfl, by decide +kernel, by decide +kernel⟩

def addL (xs ys : List Int) : List Int := mk xs.length (sadd (sr xs) (sr ys))
def spAdd : Sp := fun vs H Q _ => ∃ (p q : Addr) (xs ys : List Int), vs = [.ref p, .ref q] ∧ H p = some (.tup (xs.map V.int)) ∧ H q = some (.tup (ys.map V.int)) ∧ xs.length = ys.length ∧ xs.length ≤ 400 ∧
  ∀ r H', Same H H' → H r = none → H' r = some (.tup ((addL xs ys).map V.int)) → Q (.ref r) H'
theorem fm_some {n : Nat} (f : Nat → V) : (List.range n).filterMap (fun i => some (f i)) = (List.range n).map f := congrFun List.filterMap_eq_map' _
theorem tup_end {H1 : Hp} {D' : Addr} {xs : List V} {Q : VK} (hD : H1 D' = some (.lst xs)) (k : ∀ r, H1 r = none → Q (.ref r) (upd H1 r (.tup xs))) :
    ∃ x, (SqL K H1 D' x ∧ ∀ (l : Addr), H1 l = none → Q (V.ref l) (upd H1 l (HO.tup x))) ∨ SqT K H1 D' x ∧ Q (V.ref D') H1 := ⟨_, .inl ⟨SqL.of hD, fun l nl => k l nl⟩⟩
theorem two_end {H1 : Hp} {T : Addr} {x y : V} {R : V → V → Prop} (hT : H1 T = some (.tup [x, y])) (k : R x y) :
    ∃ l, SqT K H1 T l ∧ l.length = 2 ∧ ∃ v r, l = v :: r ∧ ∃ v' r', r = v' :: r' ∧ r' = [] ∧ R v v' := ⟨_, SqT.of hT, rfl, _, _, rfl, _, _, rfl, rfl, k⟩
theorem cal_add (D : Dn K mg "add" s_add ["v", "w"]) (B : Bl mg) : Cal P w K mg base "add" 1 ["v", "w"] spAdd := by
  refine D.cal sc_add (fun vs H Q E h => by obtain ⟨p, q, xs, ys, rfl, _⟩ := h; rfl) (fun f cdv A outer s H vs Q E hr h => ?_)
  obtain ⟨p, q, xs, ys, rfl, hp, hq, hl, h400, k⟩ := h
  refine ⟨_, (pss_one (ps_ret (pe_callTy cr_tupOf rfl B.tuple boot_tuple (pa_cons (pe_lc (own := [("a", 2), ("b", 3)]) rfl sc_add.nd (pi_zipM true true rfl B.zip (pa_cons (pv 0) (pa_cons (pv 1) pa_nil))) (blkOk_by (N := ["v", "w", "a", "b"]) (sc := defScope s_add) (own := [("a", 2), ("b", 3)]) (by decide +kernel)) (fun _ _ _ _ _ => (pg_tupK (K := K) (n := 2) rfl rfl (pgs_cons (pg_name (i := 2) sc_add.nd rfl (Or.inl rfl)) (pgs_cons (pg_name (i := 3) sc_add.nd rfl (Or.inl rfl)) pgs_nil)) rfl rfl)) (fun _ _ _ _ _ => pts_nil) (fun _ _ _ _ _ => (pe_op op_add (pv 2) (pv 3)))) pa_nil)))), ?_⟩
  walk_at "rd"
  refine ⟨_, SqT.of hp, _, SqT.of hq, LcZ.p (xs := xs.map V.int) (ys := ys.map V.int) (n := xs.length) (by rw [List.length_map, List.length_map]; omega) (fun i => some (V.int (sr xs i + sr ys i))) (by omega) (fun H1 s1 => ⟨SqT.of (s1 _ _ hp), SqT.of (s1 _ _ hq)⟩) ?_ ?_⟩
  · intro i x x' hx hx' H1 T s1 hT M S hM hS
    obtain ⟨a, rfl, ha⟩ := ints_at hx
    obtain ⟨b, rfl, hb⟩ := ints_at hx'
    walk_at "rd"
    refine two_end hT ⟨a, rfl, b, rfl, hM _ _ ?_ (Same.refl _)⟩
    rw [sr_get ha, sr_get hb]
  · intro D' H1 nD s1 hD
    rw [fm_some (fun i => V.int (sr xs i + sr ys i))] at hD
    walk_at "rd"
    refine tup_end hD fun r nr => k r _ (s1.trans (same_upd nr)) (s1.free nr) ?_
    rw [upd_same]
    unfold addL mk
    rw [List.map_map]
    rfl
abbrev s_scaled : Stmt := top 8
theorem sc_scaled : FnScope ["v", "c", "a"] ["v", "c"] (defScope s_scaled) := ⟨rfl, rfl, rfl, by decide +kernel, rfl, by decide +kernel, by decide +kernel⟩

def spSc : Sp := fun vs H Q _ => ∃ (p : Addr) (xs : List Int) (c : Int), vs = [.ref p, .int c] ∧ H p = some (.tup (xs.map V.int)) ∧ xs.length ≤ 400 ∧ (∀ x ∈ xs, IntMulOk c x) ∧
  ∀ r H', Same H H' → H r = none → H' r = some (.tup ((xs.map fun x => c * x).map V.int)) → Q (.ref r) H'
theorem cal_sc (D : Dn K mg "scaled" s_scaled ["v", "c"]) (B : Bl mg) : Cal P w K mg base "scaled" 1 ["v", "c"] spSc := by
  refine D.cal sc_scaled (fun vs H Q E h => by obtain ⟨p, xs, c, rfl, _⟩ := h; rfl) (fun f cdv A outer s H vs Q E hr h => ?_)
  obtain ⟨p, xs, c, rfl, hp, h400, ok, k⟩ := h
  refine ⟨_, (pss_one (ps_ret (pe_callTy cr_tupOf rfl B.tuple boot_tuple (pa_cons (pe_lc (own := [("a", 2)]) rfl sc_scaled.nd (pi_tup (pv 0)) (blkOk_by (N := ["v", "c", "a"]) (sc := defScope s_scaled) (own := [("a", 2)]) (by decide +kernel)) (fun _ _ _ _ _ => (pg_name (i := 2) sc_scaled.nd rfl (Or.inl rfl))) (fun _ _ _ _ _ => pts_nil) (fun _ _ _ _ _ => (pe_op op_mulI (pv 1) (pv 2)))) pa_nil)))), ?_⟩
  walk_at "rd"
  refine ⟨⟨_, SqT.of hp⟩, LcT.p (xs := xs.map V.int) (fun i => (xs[i]?).map fun x => V.int (c * x)) (by rw [List.length_map]; omega) (fun H1 s1 => SqT.of (s1 _ _ hp)) ?_ ?_⟩
  · intro i x hx H1 s1 M S hM hS
    obtain ⟨a, rfl, ha⟩ := ints_at hx
    walk_at "rd"
    refine ⟨ok a (List.mem_of_getElem? ha), hM _ _ ?_ (Same.refl _)⟩
    rw [ha]
    rfl
  · intro D' H1 nD s1 hD
    have e : (List.range (xs.map V.int).length).filterMap (fun i => (xs[i]?).map fun x => V.int (c * x)) = (xs.map fun x => c * x).map V.int := by
      rw [List.length_map]
      have := fm_get xs (fun x => some (V.int (c * x)))
      rw [List.filterMap_eq_map'] at this
      rw [List.map_map]
      refine Eq.trans (congrArg (fun g => List.filterMap g (List.range xs.length)) (funext fun i => ?_)) this
      cases xs[i]? <;> rfl
    rw [e] at hD
    walk_at "rd"
    exact tup_end hD fun r nr => k r _ (s1.trans (same_upd nr)) (s1.free nr) upd_same
abbrev s_product_of : Stmt := top 18
theorem sc_product_of : FnScope ["f", "g", "size", "items", "at", "a", "item", "b"] ["f", "g"] (defScope s_product_of) := ⟨rfl, rfl, rfl, by decide +kernel, rfl, by decide +kernel, by decide +kernel⟩

/-- the product's places, as long as the factors -/
def mulS (xs ys : List Int) : List Int := mk xs.length (cv (sr xs) (sr ys))
def spProd : Sp := fun vs H Q _ => ∃ (p q : Addr) (xs ys : List Int), vs = [.ref p, .ref q] ∧ H p = some (.tup (xs.map V.int)) ∧ H q = some (.tup (ys.map V.int)) ∧ xs.length = ys.length ∧ xs.length ≤ 400 ∧ 1 ≤ xs.length ∧
  nm (sr xs) xs.length < 2 ^ 200000 ∧ nm (sr ys) xs.length < 2 ^ 200000 ∧
  ∀ r H', Same H H' → H r = none → H' r = some (.tup ((mulS xs ys).map V.int)) → Q (.ref r) H'
theorem nm_ok {xs ys : List Int} {N i j : Nat} (h : nm (sr xs) N < 2 ^ 200000) (h' : nm (sr ys) N < 2 ^ 200000) (hi : i < N) (hj : j < N) : IntMulOk (sr xs i) (sr ys j) :=
  (wide_mul (a := 200000) (b := 200000) (Nat.lt_of_le_of_lt (nm_at hi) h) (Nat.lt_of_le_of_lt (nm_at hj) h') (by decide) (by decide) (by decide)).ok
/-- the places with the first i items of the one factor -/
def parts (xs ys : List Int) (i : Nat) : List Int := mk xs.length (cv (cutS i (sr xs)) (sr ys))
theorem parts_zero (xs ys : List Int) : parts xs ys 0 = List.replicate xs.length 0 := by
  unfold parts mk
  refine List.eq_replicate_iff.mpr ⟨by rw [List.length_map, List.length_range], fun b hb => ?_⟩
  obtain ⟨k, _, rfl⟩ := List.mem_map.mp hb
  rw [cut_zero]
  exact cv_null
theorem parts_len (xs ys : List Int) (i : Nat) : (parts xs ys i).length = xs.length := mk_len
theorem parts_all (xs ys : List Int) : parts xs ys xs.length = mulS xs ys := mk_ext fun k hk => cv_cut hk
theorem parts_skip {xs ys : List Int} {i : Nat} (h : sr xs i = 0) : parts xs ys (i + 1) = parts xs ys i := mk_ext fun k hk => by
  rw [cv_cut_succ, h, Int.zero_mul]
  split <;> omega
theorem parts_get {xs ys : List Int} {i k : Nat} (h : k < xs.length) : (parts xs ys i)[k]? = some (cv (cutS i (sr xs)) (sr ys) k) := mk_get h
/-- one more item -/
theorem parts_put {xs ys : List Int} {i : Nat} (hi : i < xs.length) : (parts xs ys i).take i ++ ((List.range (xs.length - i)).map fun j => cv (cutS i (sr xs)) (sr ys) (i + j) + sr xs i * sr ys j) = parts xs ys (i + 1) := by
  refine List.ext_getElem? fun k => ?_
  rcases Nat.lt_or_ge k xs.length with h | h
  · rw [parts_get h, cv_cut_succ]
    rcases Nat.lt_or_ge k i with c | c
    · rw [List.getElem?_append_left (by rw [List.length_take, parts_len]; omega), List.getElem?_take_of_lt c, parts_get h, if_neg (by omega), Int.add_zero]
    · have lt : ((parts xs ys i).take i).length = i := by rw [List.length_take, parts_len]; omega
      rw [List.getElem?_append_right (by rw [lt]; exact c), lt, List.getElem?_map, List.getElem?_range (by omega), if_pos c]
      show some (cv (cutS i (sr xs)) (sr ys) (i + (k - i)) + _) = _
      rw [show i + (k - i) = k by omega]
  · have l : ((parts xs ys i).take i ++ ((List.range (xs.length - i)).map fun j => cv (cutS i (sr xs)) (sr ys) (i + j) + sr xs i * sr ys j)).length = xs.length := by
      rw [List.length_append, List.length_take, parts_len, List.length_map, List.length_range]
      omega
    rw [List.getElem?_eq_none (by rw [l]; exact h), List.getElem?_eq_none (by rw [parts_len]; exact h)]
theorem cutV_from {xs : List V} {i : Nat} (h : i ≤ xs.length) : cutV xs (some (i : Int)) none = xs.drop i := by
  unfold cutV
  rw [HT.sIx_none, show HT.sIx xs.length 0 (some (i : Int)) = min i xs.length from HT.sIx_nat _ _ i, show min i xs.length = i by omega]
  exact List.take_of_length_le (by rw [List.length_drop]; omega)
theorem cal_prod (D : Dn K mg "product_of" s_product_of ["f", "g"]) (B : Bl mg) : Cal P w K mg base "product_of" 1 ["f", "g"] spProd := by
  refine D.cal sc_product_of (fun vs H Q E h => by obtain ⟨p, q, xs, ys, rfl, _⟩ := h; rfl) (fun f cdv A outer s H vs Q E hr h => ?_)
  obtain ⟨p, q, xs, ys, rfl, hp, hq, hl, h400, h1, n1, n2, k⟩ := h
  refine ⟨_, (pss_cons (ps_set (i := 2) sc_product_of.nd rfl (Or.inl rfl) (pe_callB cr_lenS rfl B.len (by decide +kernel) (pa_cons (pv 0) pa_nil)))
  (pss_cons (ps_set (i := 3) sc_product_of.nd rfl (Or.inl rfl) (pe_op op_rep (pe_lst (pa_cons pe_int pa_nil)) (pv 2)))
  (pss_cons (ps_for PassesOwn.never rfl (pi_enumT rfl B.enumerate (pa_cons (pv 0) pa_nil)) (pg_tup (n := 2) rfl (pgs_cons (pg_name (i := 4) sc_product_of.nd rfl (Or.inl rfl)) (pgs_cons (pg_name (i := 5) sc_product_of.nd rfl (Or.inr rfl)) pgs_nil))) (pss_one (ps_if (pt_truth (pv 5) (by intro _; rfl)) (pss_one (ps_asg (pe_lc (own := [("item", 6), ("b", 7)]) rfl sc_product_of.nd (pi_zipM false true rfl B.zip (pa_cons (pe_slice sl_list (pv 3) (po_some (pv 4)) po_none) (pa_cons (pv 1) pa_nil))) (blkOk_by (N := ["f", "g", "size", "items", "at", "a", "item", "b"]) (sc := defScope s_product_of) (own := [("item", 6), ("b", 7)]) (by decide +kernel)) (fun _ _ _ _ _ => (pg_tupK (K := K) (n := 2) rfl rfl (pgs_cons (pg_name (i := 6) sc_product_of.nd rfl (Or.inl rfl)) (pgs_cons (pg_name (i := 7) sc_product_of.nd rfl (Or.inl rfl)) pgs_nil)) rfl rfl)) (fun _ _ _ _ _ => pts_nil) (fun _ _ _ _ _ => (pe_op op_add (pv 6) (pe_op op_mulI (pv 5) (pv 7))))) (pg_putS (pv 3) (po_some (pv 4)) po_none))) pss_nil)))
  (pss_one (ps_ret (pe_callTy cr_tupOf rfl B.tuple boot_tuple (pa_cons (pv 3) pa_nil))))))), ?_⟩
  rw [CB.rd_seq]
  walk_at "rs"
  refine ⟨(xs.map V.int).length, .inr ⟨_, SqT.of hp, rfl⟩, ?_⟩
  rw [List.length_map]
  walk_at "nx"
  have szL : 100000 ≤ sizeLine := by rw [PySem.sizeLine_eq]; decide
  refine ⟨by omega, fun l1 nl1 => ⟨_, upd_same, by omega, by omega, ?_, fun D1 nD1 => ?_⟩⟩
  · show 1 * _ ≤ _
    omega
  have nD : H D1 = none := (same_upd nl1).free nD1
  have s0 : Same H (upd (upd H l1 (.lst [V.int 0])) D1 (.lst (List.replicate (xs.length : Int).toNat [V.int 0]).flatten)) := (same_upd nl1).trans (same_upd nD1)
  have d0 : (upd (upd H l1 (.lst [V.int 0])) D1 (.lst (List.replicate (xs.length : Int).toNat [V.int 0]).flatten)) D1 = some (.lst ((parts xs ys 0).map V.int)) := by
    rw [upd_same, parts_zero, List.map_replicate, Int.toNat_natCast]
    have : ∀ m : Nat, (List.replicate m [V.int 0]).flatten = List.replicate m (V.int 0) := fun m => by
      induction m with
      | zero => rfl
      | succ m ih => rw [List.replicate_succ, List.flatten_cons, ih, List.replicate_succ]; rfl
    rw [this]
  generalize upd (upd H l1 (.lst [V.int 0])) D1 (.lst (List.replicate (xs.length : Int).toNat [V.int 0]).flatten) = H0 at *
  rw [CB.rd_seq]
  walk_at "rs"
  refine ⟨xs.map V.int, SqT.of (s0 _ _ hp), ForE.w (xs := xs.map V.int) (fun i σ H2 => (∃ t4 t5, σ = [some (.ref p), some (.ref q), some (.int xs.length), some (.ref D1), t4, t5, none, none]) ∧ Same H H2 ∧ H2 D1 = some (.lst ((parts xs ys i).map V.int))) ⟨⟨_, _, rfl⟩, s0, d0⟩ (fun i σ H2 _ ⟨_, s2, _⟩ => SqT.of (s2 _ _ hp)) ?_ ?_⟩
  · rintro i x T σ H2 hx ⟨⟨t4, t5, rfl⟩, s2, d2⟩ nT N hN
    obtain ⟨a, rfl, ha⟩ := ints_at hx
    have hi : i < xs.length := (List.getElem?_eq_some_iff.mp ha).1
    have ea := sr_get ha
    have sT := same_upd (o := HO.tup [V.int ((i : Nat) : Int), V.int a]) nT
    have hT : (upd H2 T (.tup [V.int ((i : Nat) : Int), V.int a])) T = some (.tup [V.int ((i : Nat) : Int), V.int a]) := upd_same
    generalize upd H2 T (.tup [V.int ((i : Nat) : Int), V.int a]) = H3 at *
    have s3 := s2.trans sT
    have d3 := sT _ _ d2
    walk_at "rs"
    refine two_end hT ⟨a != 0, rfl, ?_⟩
    by_cases a0 : a = 0
    · subst a0
      rw [if_neg (by decide)]
      refine hN _ _ ⟨⟨_, _, rfl⟩, s3, ?_⟩
      rw [parts_skip ea]
      exact d3
    have e0 : (a != 0) = true := by simp [a0]
    rw [e0, if_pos rfl]
    refine ⟨_, rfl, _, SqL.of d3, fun l2 nl2 => ?_⟩
    have s4 := s3.trans (same_upd (o := HO.lst (cutV ((parts xs ys i).map V.int) (some ((i : Nat) : Int)) none)) nl2)
    have d4 := same_upd (o := HO.lst (cutV ((parts xs ys i).map V.int) (some ((i : Nat) : Int)) none)) nl2 _ _ d3
    have l4 : (upd H3 l2 (.lst (cutV ((parts xs ys i).map V.int) (some ((i : Nat) : Int)) none))) l2 = some (.lst (((parts xs ys i).drop i).map V.int)) := by
      rw [upd_same, cutV_from (by rw [List.length_map, parts_len]; omega), List.map_drop]
    generalize upd H3 l2 (.lst (cutV ((parts xs ys i).map V.int) (some ((i : Nat) : Int)) none)) = H4 at *
    refine ⟨_, SqL.of l4, _, SqT.of (s4 _ _ hq), LcZ.p (xs := ((parts xs ys i).drop i).map V.int) (ys := ys.map V.int) (n := xs.length - i) (by rw [List.length_map, List.length_map, List.length_drop, parts_len]; omega)
      (fun j => some (V.int (cv (cutS i (sr xs)) (sr ys) (i + j) + sr xs i * sr ys j))) (by omega) (fun H5 s5 => ⟨SqL.of (s5 _ _ l4), SqT.of (s5 _ _ (s4 _ _ hq))⟩) ?_ ?_⟩
    · intro j x x' hx hx' H5 T5 s5 hT5 M S hM hS
      obtain ⟨u, rfl, hu⟩ := ints_at hx
      obtain ⟨v, rfl, hv⟩ := ints_at hx'
      have hj : j < ys.length := (List.getElem?_eq_some_iff.mp hv).1
      rw [List.getElem?_drop] at hu
      have hij : i + j < xs.length := by
        have := (List.getElem?_eq_some_iff.mp hu).1
        rwa [parts_len] at this
      rw [parts_get hij] at hu
      have eu := Option.some.inj hu
      walk_at "rd"
      refine two_end hT5 ⟨_, rfl, ?_, _, rfl, hM _ _ ?_ (Same.refl _)⟩
      · have := nm_ok (xs := xs) (ys := ys) (i := i) (j := j) n1 n2 hi (by omega)
        rw [ea, sr_get hv] at this
        exact this
      · rw [eu, ea, sr_get hv]
    · intro D6 H6 nD6 s6 hD6
      rw [fm_some (fun j => V.int (cv (cutS i (sr xs)) (sr ys) (i + j) + sr xs i * sr ys j))] at hD6
      have ne : D1 ≠ D6 := fun e => by subst e; rw [nD6] at d4; cases d4
      refine ⟨_, rfl, rPutS.w (d := i) (st := 1) ne (s6 _ _ d4) hD6 rfl rfl (by decide) ?_ ?_ (fun z => absurd rfl z) (hN _ _ ⟨⟨_, _, rfl⟩, same_at (s4.trans s6) nD, ?_⟩)⟩
      · rw [List.length_map, parts_len]
        omega
      · rw [List.length_map, parts_len, List.length_map, List.length_range]
        omega
      · rw [upd_same]
        unfold putS
        rw [if_pos rfl, List.length_map, parts_len, show max i xs.length = xs.length by omega, List.drop_of_length_le (by rw [List.length_map, parts_len]; exact Nat.le_refl _), List.append_nil, ← List.map_take, ← parts_put hi, List.map_append]
        congr 2
        rw [List.map_map]
        rfl
  · rintro σ H2 ⟨⟨t4, t5, rfl⟩, s2, d2⟩
    rw [List.length_map, parts_all] at d2
    walk_at "rs"
    exact tup_end d2 fun r nr => k r _ (s2.trans (same_upd nr)) (s2.free nr) upd_same
end

section
variable {P : Program} {w : World} {K : PySem.W.Frag} {mg : Str → Option Value} {base : Heap} {CM : Addr}
theorem cat_end {K : PySem.W.Frag} {H : Hp} {a b : Addr} {xs ys : List V} {Q : VK} (ha : H a = some (.tup xs)) (hb : H b = some (.tup ys)) (hl : xs.length + ys.length ≤ 100000) (q : ∀ p H', Same H H' → H' p = some (.tup (xs ++ ys)) → Q (.ref p) H') :
    ∃ l, SqT K H a l ∧ ∃ m, SqT K H b m ∧ l.length + m.length ≤ sizeLine ∧ (l = [] → Q (.ref b) H) ∧ (l ≠ [] → m = [] → Q (.ref a) H) ∧ (l ≠ [] → m ≠ [] → ∀ p, H p = none → Q (.ref p) (upd H p (.tup (l ++ m)))) := by
  refine ⟨xs, SqT.of ha, ys, SqT.of hb, by rw [PySem.sizeLine_eq]; omega, fun e => q b H (Same.refl _) ?_, fun _ e => q a H (Same.refl _) ?_, fun _ _ p np => q p _ (same_upd np) upd_same⟩
  · rw [hb, e, List.nil_append]
  · rw [ha, e, List.append_nil]
theorem rep_flat {v : V} : ∀ m : Nat, (List.replicate m [v]).flatten = List.replicate m v
  | 0 => rfl
  | m + 1 => by rw [List.replicate_succ, List.flatten_cons, rep_flat m, List.replicate_succ]; rfl
abbrev s_unit_series : Stmt := top 20
theorem sc_unit_series : FnScope ["size"] ["size"] (defScope s_unit_series) := ⟨rfl, rfl, rfl, by decide +kernel, rfl, by decide +kernel, by decide +kernel⟩

def unitL (N : Nat) : List Int := mk N one
theorem unit_app {N : Nat} (h1 : 1 ≤ N) : [V.int 1] ++ List.replicate (N - 1) (V.int 0) = (unitL N).map V.int := by
  obtain ⟨M, rfl⟩ : ∃ M, N = M + 1 := ⟨N - 1, by omega⟩
  refine List.ext_getElem? fun i => ?_
  rw [List.getElem?_map]
  rcases Nat.lt_or_ge i (M + 1) with c | c
  · unfold unitL
    rw [mk_get c]
    match i, c with
    | 0, _ => rfl
    | j + 1, c =>
      show (V.int 1 :: List.replicate (M + 1 - 1) (V.int 0))[j + 1]? = some (V.int (one (j + 1)))
      rw [List.getElem?_cons_succ, List.getElem?_replicate, if_pos (by omega)]
      rfl
  · rw [List.getElem?_eq_none (by rw [List.length_append, List.length_replicate]; show 1 + _ ≤ _; omega), List.getElem?_eq_none (by unfold unitL; rw [mk_len]; exact c)]
    rfl
theorem nm_one : ∀ m, nm one m ≤ 1
  | 0 => by decide
  | m + 1 => by
    have e : tl one = fun _ => 0 := by
      funext i
      show (if i + 1 = 0 then (1 : Int) else 0) = 0
      rw [if_neg (by omega)]
    have y : ∀ m, nm (fun _ => 0) m = 0 := fun m => by
      induction m with
      | zero => rfl
      | succ m ih => show (0 : Int).natAbs + nm (fun _ => 0) m = 0; rw [ih]; rfl
    show (one 0).natAbs + nm (tl one) m ≤ 1
    rw [e, y]
    decide
def spUnit : Sp := fun vs H Q _ => ∃ N : Nat, vs = [.int N] ∧ 1 ≤ N ∧ N ≤ 400 ∧ ∀ r H', Same H H' → H' r = some (.tup ((unitL N).map V.int)) → Q (.ref r) H'
theorem cal_unit (D : Dn K mg "unit_series" s_unit_series ["size"]) (B : Bl mg) : Cal P w K mg base "unit_series" 1 ["size"] spUnit := by
  refine D.cal sc_unit_series (fun vs H Q E h => by obtain ⟨N, rfl, _⟩ := h; rfl) (fun f cdv A outer s H vs Q E hr h => ?_)
  obtain ⟨N, rfl, h1, h400, k⟩ := h
  refine ⟨_, (pss_one (ps_ret (pe_op op_catA (pe_tup (pa_cons pe_int pa_nil)) (pe_op op_repA (pe_tup (pa_cons pe_int pa_nil)) (pe_op op_sub (pv 0) pe_int))))), ?_⟩
  walk_at "rd"
  refine ⟨by decide, fun p np => ⟨by decide, fun p1 np1 => ?_⟩⟩
  rw [rd_repA]
  have s1 := (same_upd (o := HO.tup [V.int 1]) np).trans (same_upd (o := HO.tup [V.int 0]) np1)
  have hp := same_upd (o := HO.tup [V.int 0]) np1 _ _ (upd_same (H := H) (a := p) (o := HO.tup [V.int 1]))
  refine ⟨p1, N - 1, [.int 0], rfl, by congr 1; omega, upd_same, by decide, by omega, by decide, fun p2 H2 s2 h2 => ?_⟩
  refine ⟨p2, rfl, cat_end (s2 _ _ hp) h2 (by rw [rep_flat, List.length_replicate]; show 1 + _ ≤ _; omega) fun p3 H3 s3 h3 => k p3 H3 ((s1.trans s2).trans s3) ?_⟩
  rw [h3, rep_flat, unit_app h1]
abbrev s_power_of : Stmt := top 21
theorem sc_power_of : FnScope ["f", "n", "result"] ["f", "n"] (defScope s_power_of) := ⟨rfl, rfl, rfl, by decide +kernel, rfl, by decide +kernel, by decide +kernel⟩

def powL (xs : List Int) (n : Nat) : List Int := mk xs.length (pw (sr xs) n)
def spPw : Sp := fun vs H Q _ => ∃ (p : Addr) (xs : List Int) (n B : Nat), vs = [.ref p, .int n] ∧ H p = some (.tup (xs.map V.int)) ∧ 1 ≤ xs.length ∧ xs.length ≤ 400 ∧ nm (sr xs) xs.length ≤ B ∧ 1 ≤ B ∧ B ^ n < 2 ^ 100000 ∧
  ∀ r H', Same H H' → H' r = some (.tup ((powL xs n).map V.int)) → Q (.ref r) H'
theorem cal_pwo (D : Dn K mg "power_of" s_power_of ["f", "n"]) (B : Bl mg) (c_unit_series : Cal P w K mg base "unit_series" 1 ["size"] spUnit) (c_product_of : Cal P w K mg base "product_of" 1 ["f", "g"] spProd) : Cal P w K mg base "power_of" 2 ["f", "n"] spPw := by
  refine D.cal sc_power_of (fun vs H Q E h => by obtain ⟨p, xs, n, b, rfl, _⟩ := h; rfl) (fun f cdv A outer s H vs Q E hr h => ?_)
  obtain ⟨p, xs, n, b, rfl, hp, h1, h400, hb, b1, hB, k⟩ := h
  refine ⟨_, (pss_cons (ps_set (i := 2) sc_power_of.nd rfl (Or.inl rfl) (pe_cal c_unit_series (hr.mono (by decide)) rfl (pa_cons (pe_callB cr_lenS rfl B.len (by decide +kernel) (pa_cons (pv 0) pa_nil)) pa_nil)))
  (pss_cons (ps_while PassesOwn.never (pt_truth (pv 1) (by intro _; rfl)) (pss_cons (ps_if (pt_truth (pe_op op_and (pv 1) pe_int) (by intro _; rfl)) (pss_one (ps_set (i := 2) sc_power_of.nd rfl (Or.inl rfl) (pe_cal c_product_of (hr.mono (by decide)) rfl (pa_cons (pv 2) (pa_cons (pv 0) pa_nil))))) pss_nil)
  (pss_cons (ps_aug (i := 1) sc_power_of.nd rfl (Or.inl rfl) pe_int iop_shr)
  (pss_one (ps_if (pt_truth (pv 1) (by intro _; rfl)) (pss_one (ps_set (i := 0) sc_power_of.nd rfl (Or.inl rfl) (pe_cal c_product_of (hr.mono (by decide)) rfl (pa_cons (pv 0) (pa_cons (pv 0) pa_nil))))) pss_nil)))))
  (pss_one (ps_ret (pv 2))))), ?_⟩
  rw [CB.rd_seq]
  walk_at "rs"
  refine ⟨(xs.map V.int).length, .inr ⟨_, SqT.of hp, rfl⟩, ?_⟩
  rw [List.length_map]
  refine ⟨xs.length, rfl, h1, h400, fun r0 H1 s1 hr0 => ?_⟩
  walk_at "nx"
  have big : (2 : Nat) ^ 100000 < 2 ^ 200000 := Nat.pow_lt_pow_right (by decide) (by decide)
  generalize hX : b ^ n = X at *
  refine while_w (fun σ H' => ∃ (pf pr : Addr) (fs rs : List Int) (m bf br : Nat), σ = [some (.ref pf), some (.int m), some (.ref pr)] ∧ Same H1 H' ∧ H' pf = some (.tup (fs.map V.int)) ∧ H' pr = some (.tup (rs.map V.int)) ∧ fs.length = xs.length ∧ rs.length = xs.length ∧
    EqS xs.length (cv (sr rs) (pw (sr fs) m)) (pw (sr xs) n) ∧ nm (sr fs) xs.length ≤ bf ∧ nm (sr rs) xs.length ≤ br ∧ 1 ≤ bf ∧ 1 ≤ br ∧ br * bf ^ m ≤ X)
    (fun σ _ => match σ with | [_, some (.int m), _] => m.toNat | _ => 0) ⟨p, r0, xs, unitL xs.length, n, b, 1, rfl, Same.refl _, s1 _ _ hp, hr0, rfl, by unfold unitL; rw [mk_len], ?_, hb, ?_, b1, Nat.le_refl _, by rw [Nat.one_mul, hX]; exact Nat.le_refl _⟩ ?_
  · refine EqS.trans (EqS.cv (sr_mk (N := xs.length) (a := one)) EqS.refl) ?_
    rw [cv_one']
    exact EqS.refl
  · rw [show nm (sr (unitL xs.length)) xs.length = nm one xs.length from nm_ext sr_mk]
    have : one = dl 0 1 := rfl
    have z : ∀ m, nm one m ≤ 1 := fun m => by
      cases m with
      | zero => decide
      | succ m =>
        have e : tl one = fun _ => 0 := by
          funext i
          show (if i + 1 = 0 then (1 : Int) else 0) = 0
          rw [if_neg (by omega)]
        have y : ∀ m, nm (fun _ => 0) m = 0 := fun m => by
          induction m with
          | zero => rfl
          | succ m ih => show (0 : Int).natAbs + nm (fun _ => 0) m = 0; rw [ih]; rfl
        show (one 0).natAbs + nm (tl one) m ≤ 1
        rw [e, y]
        decide
    exact z _
  rintro σ H' ⟨pf, pr, fs, rs, m, bf, br, rfl, s2, hf, hr', lf, lr, eq, nf, nr, bf1, br1, le⟩ N hN
  refine ⟨(m : Int) != 0, fun Q' q' => ?_, fun hb => ?_, fun hb => ?_⟩
  · walk_at "rd"
    exact ⟨_, rfl, q'⟩
  · have m0 : m ≠ 0 := by
      intro e
      subst e
      exact absurd hb (by decide)
    have bfX : bf ≤ X := Nat.le_trans (Nat.le_trans (Nat.le_self_pow m0 bf) (Nat.le_mul_of_pos_left _ br1)) le
    have brX : br ≤ X := Nat.le_trans (Nat.le_mul_of_pos_right _ (Nat.pow_pos bf1)) le
    have pst : bf ^ m = (if m % 2 = 1 then bf else 1) * (bf * bf) ^ (m / 2) := by
      have e : (bf * bf) ^ (m / 2) = bf ^ (2 * (m / 2)) := by rw [Nat.pow_mul, Nat.pow_two]
      rw [e]
      split
      · rw [← Nat.pow_succ']
        congr 1
        omega
      · rw [Nat.one_mul]
        congr 1
        omega
    refine seq_cut (fun σ H2 => ∃ (pr : Addr) (rs : List Int) (br : Nat), σ = [some (.ref pf), some (.int m), some (.ref pr)] ∧ Same H1 H2 ∧ H2 pf = some (.tup (fs.map V.int)) ∧ H2 pr = some (.tup (rs.map V.int)) ∧ rs.length = xs.length ∧
      EqS xs.length (cv (sr rs) (pw (cv (sr fs) (sr fs)) (m / 2))) (pw (sr xs) n) ∧ nm (sr rs) xs.length ≤ br ∧ 1 ≤ br ∧ br * (bf * bf) ^ (m / 2) ≤ X) (fun R hR => ?_) ?_
    · walk_at "rs"
      refine ⟨_, rfl, ?_⟩
      rw [PyProof.Rows.bitAnd_m1]
      rw [pw_half] at eq
      rw [pst] at le
      by_cases c : m % 2 = 1
      · have e : (((m : Int) % 2 != 0) : Bool) = true := by simp; omega
        rw [e, if_pos rfl]
        rw [if_pos c] at eq le
        refine ⟨pr, pf, rs, fs, rfl, hr', hf, by omega, by omega, by omega, by rw [lr]; omega, by rw [lr]; omega, fun r2 H2 s3 nr2 hr2 => ?_⟩
        refine hR _ _ ⟨r2, mulS rs fs, br * bf, rfl, s2.trans s3, s3 _ _ hf, hr2, ?_, ?_, ?_, Nat.mul_pos br1 bf1, by rw [Nat.mul_assoc]; exact le⟩
        · unfold mulS
          rw [mk_len, lr]
        · unfold mulS
          rw [lr]
          refine EqS.trans (EqS.cv sr_mk EqS.refl) ?_
          rw [cv_funL]
          exact eq
        · unfold mulS
          rw [lr, nm_ext (sr_mk (N := xs.length))]
          exact Nat.le_trans nm_cv (Nat.mul_le_mul nr nf)
      · have e : (((m : Int) % 2 != 0) : Bool) = false := by simp; omega
        rw [e, if_neg (by decide)]
        rw [if_neg c] at eq le
        rw [Nat.one_mul] at le
        rw [cv_one'] at eq
        exact hR _ _ ⟨pr, rs, br, rfl, s2, hf, hr', lr, eq, nr, br1, le⟩
    rintro σ H2 ⟨pr, rs, br, rfl, s3, hf2, hr2, lr2, eq2, nr2, br2, le2⟩
    rw [CB.rd_seq]
    walk_at "rs"
    have e2 : (m : Int) / 2 ^ Int.toNat 1 = ((m / 2 : Nat) : Int) := by
      show (m : Int) / 2 = _
      omega
    rw [e2]
    refine ⟨by decide, _, rfl, ?_⟩
    by_cases c : m / 2 = 0
    · rw [c] at eq2 le2 ⊢
      rw [if_neg (by decide)]
      exact hN _ _ ⟨pf, pr, fs, rs, 0, bf, br, rfl, s3, hf2, hr2, lf, lr2, eq2, nf, nr2, bf1, br2, le2⟩ (by show ((0 : Nat) : Int).toNat < (m : Int).toNat; omega)
    · have e : (((m / 2 : Nat) : Int) != 0) = true := by simp; omega
      rw [e, if_pos rfl]
      refine ⟨pf, pf, fs, fs, rfl, hf2, hf2, rfl, by omega, by omega, by rw [lf]; omega, by rw [lf]; omega, fun r4 H4 s4 nr4 hr4 => ?_⟩
      refine hN _ _ ⟨r4, pr, mulS fs fs, rs, m / 2, bf * bf, br, rfl, s3.trans s4, hr4, s4 _ _ hr2, ?_, lr2, ?_, ?_, nr2, Nat.mul_pos bf1 bf1, br2, le2⟩ (by show ((m / 2 : Nat) : Int).toNat < (m : Int).toNat; omega)
      · unfold mulS
        rw [mk_len, lf]
      · refine EqS.trans (EqS.cv EqS.refl (EqS.pw ?_ _)) eq2
        unfold mulS
        rw [lf]
        exact sr_mk
      · unfold mulS
        rw [lf, nm_ext (sr_mk (N := xs.length))]
        exact Nat.le_trans nm_cv (Nat.mul_le_mul nf nf)
  · have m0 : m = 0 := by
      have : ((m : Int) != 0) = false := hb
      simp at this
      omega
    subst m0
    walk_at "rs"
    refine k pr H' (s1.trans s2) ?_
    rw [hr']
    congr 2
    have e : rs = mk xs.length (sr rs) := by rw [← lr, mk_sr]
    rw [e]
    unfold powL
    have eq : EqS xs.length (cv (sr rs) one) (pw (sr xs) n) := eq
    rw [cv_funC, cv_one'] at eq
    rw [mk_ext eq]
end

section
variable {P : Program} {w : World} {K : PySem.W.Frag} {mg : Str → Option Value} {base : Heap} {CM : Addr}
/-- no series, however the heap grows -/
def StB (K : PySem.W.Frag) (H : Hp) (v : V) : Prop := ∀ H', Same H H' → BadS K H' v
theorem StB.same {H H' : Hp} {v : V} (h : StB K H v) (s : Same H H') : StB K H' v := fun H2 s2 => h H2 (s.trans s2)
def GoodS (H : Hp) (v : V) (ns : List Int) : Prop := ∃ p : Addr, v = .ref p ∧ H p = some (.tup (ns.map V.int)) ∧ 1 ≤ ns.length ∧ ns.length ≤ 400
theorem GoodS.same {H H' : Hp} {v : V} {ns : List Int} (h : GoodS H v ns) (s : Same H H') : GoodS H' v ns := by
  obtain ⟨p, e, hp, r⟩ := h
  exact ⟨p, e, s _ _ hp, r⟩
theorem chk_good {CM : Addr} {H : Hp} {v : V} {ns : List Int} {Q : VK} {E : Value → Option Addr → Hp → Prop} (h : GoodS H v ns) (q : ∀ H', Same H H' → Q .non H') : spChkS K CM [v] H Q E := by
  obtain ⟨p, rfl, hp, a, b⟩ := h
  exact ⟨_, rfl, .inr ⟨p, ns, rfl, hp, a, b, q⟩⟩
theorem chk_bad {CM : Addr} {H : Hp} {v : V} {Q : VK} {E : Value → Option Addr → Hp → Prop} (h : StB K H v) (e : ∀ H', Same H H' → E (.ref CM) none H') : spChkS K CM [v] H Q E :=
  ⟨v, rfl, .inl ⟨h H (Same.refl H), e⟩⟩
/-- two series, or not: what is raised, what is told -/
def Pair2 (K : PySem.W.Frag) (H : Hp) (v u : V) (bad : Prop) (good : List Int → List Int → Prop) : Prop := (StB K H v ∧ bad) ∨ (∃ xs, GoodS H v xs ∧ StB K H u ∧ bad) ∨ (∃ xs ys, GoodS H v xs ∧ GoodS H u ys ∧ xs.length ≠ ys.length ∧ bad) ∨
  ∃ xs ys, GoodS H v xs ∧ GoodS H u ys ∧ xs.length = ys.length ∧ good xs ys
abbrev s__check_pair : Stmt := top 15
theorem sc__check_pair : FnScope ["f", "g"] ["f", "g"] (defScope s__check_pair) := ⟨rfl, rfl, rfl, by decide +kernel, rfl, by decide +kernel, by decide +kernel⟩

def spPair (K : PySem.W.Frag) (CM : Addr) : Sp := fun vs H Q E => ∃ v u : V, vs = [v, u] ∧ Pair2 K H v u (∀ H', Same H H' → E (.ref CM) none H') (fun _ _ => ∀ H', Same H H' → Q .non H')
theorem cal_pair (D : Dn K mg "_check_pair" s__check_pair ["f", "g"]) (B : Bl mg) (c_check_series : CalX P w K mg base "check_series" 4 ["f"] (spChkS K CM)) (e_E : ErrO K mg CM) : CalX P w K mg base "_check_pair" 5 ["f", "g"] (spPair K CM) := by
  refine D.calX sc__check_pair (fun vs H Q E h => by obtain ⟨v, u, rfl, _⟩ := h; rfl) (fun f cdv A outer s H vs Q E hr h => ?_)
  obtain ⟨v, u, rfl, h⟩ := h
  refine ⟨_, (pss_cons (ps_expr (pe_calS c_check_series (takes_of rfl rfl rfl rfl) (hr.mono (by decide)) rfl (pa_cons (pv 0) pa_nil)))
  (pss_cons (ps_expr (pe_calS c_check_series (takes_of rfl rfl rfl rfl) (hr.mono (by decide)) rfl (pa_cons (pv 1) pa_nil)))
  (pss_one (ps_if (pt_cmpR op_ne (pe_callB cr_lenS rfl B.len (by decide +kernel) (pa_cons (pv 0) pa_nil)) (pe_callB cr_lenS rfl B.len (by decide +kernel) (pa_cons (pv 1) pa_nil)) (nomark _)) (pss_one (ps_mal e_E.m rfl (takes_of rfl rfl rfl rfl) rfl)) pss_nil)))), ?_⟩
  walk_at "rd"
  rcases h with ⟨hv, e⟩ | ⟨xs, hv, hu, e⟩ | ⟨xs, ys, hv, hu, ne, e⟩ | ⟨xs, ys, hv, hu, ne, e⟩
  · exact chk_bad hv e
  · exact chk_good hv fun H1 s1 => chk_bad (hu.same s1) fun H2 s2 => e H2 (s1.trans s2)
  · refine chk_good hv fun H1 s1 => chk_good (hu.same s1) fun H2 s2 => ?_
    obtain ⟨p, rfl, hp, _⟩ := hv.same (s1.trans s2)
    obtain ⟨q, rfl, hq, _⟩ := hu.same (s1.trans s2)
    refine ⟨(xs.map V.int).length, .inr ⟨_, SqT.of hp, rfl⟩, (ys.map V.int).length, .inr ⟨_, SqT.of hq, rfl⟩, ?_⟩
    rw [List.length_map, List.length_map, if_neg (by omega)]
    exact e H2 (s1.trans s2)
  · refine chk_good hv fun H1 s1 => chk_good (hu.same s1) fun H2 s2 => ?_
    obtain ⟨p, rfl, hp, _⟩ := hv.same (s1.trans s2)
    obtain ⟨q, rfl, hq, _⟩ := hu.same (s1.trans s2)
    refine ⟨(xs.map V.int).length, .inr ⟨_, SqT.of hp, rfl⟩, (ys.map V.int).length, .inr ⟨_, SqT.of hq, rfl⟩, ?_⟩
    rw [List.length_map, List.length_map, if_pos (by omega)]
    exact e H2 (s1.trans s2)
abbrev s_plus : Stmt := top 16
theorem sc_plus : FnScope ["f", "g"] ["f", "g"] (defScope s_plus) := ⟨rfl, rfl, rfl, by decide +kernel, rfl, by decide +kernel, by decide +kernel⟩

def spPlus (K : PySem.W.Frag) (CM : Addr) : Sp := fun vs H Q E => ∃ v u : V, vs = [v, u] ∧ Pair2 K H v u (∀ H', Same H H' → E (.ref CM) none H') (fun xs ys => ∀ r H', Same H H' → H' r = some (.tup ((addL xs ys).map V.int)) → Q (.ref r) H')
theorem cal_plus (D : Dn K mg "plus" s_plus ["f", "g"]) (B : Bl mg) (c__check_pair : CalX P w K mg base "_check_pair" 5 ["f", "g"] (spPair K CM)) (c_add : Cal P w K mg base "add" 1 ["v", "w"] spAdd) (e_E : ErrO K mg CM) : CalX P w K mg base "plus" 6 ["f", "g"] (spPlus K CM) := by
  refine D.calX sc_plus (fun vs H Q E h => by obtain ⟨v, u, rfl, _⟩ := h; rfl) (fun f cdv A outer s H vs Q E hr h => ?_)
  obtain ⟨v, u, rfl, h⟩ := h
  refine ⟨_, (pss_cons (ps_expr (pe_calS c__check_pair (takes_of rfl rfl rfl rfl) (hr.mono (by decide)) rfl (pa_cons (pv 0) (pa_cons (pv 1) pa_nil))))
  (pss_one (ps_ret (pe_cal c_add (hr.mono (by decide)) rfl (pa_cons (pv 0) (pa_cons (pv 1) pa_nil)))))), ?_⟩
  walk_at "rd"
  rcases h with h | h | h | ⟨xs, ys, hv, hu, el, k⟩
  · exact ⟨v, u, rfl, .inl h⟩
  · exact ⟨v, u, rfl, .inr (.inl h)⟩
  · exact ⟨v, u, rfl, .inr (.inr (.inl h))⟩
  · refine ⟨v, u, rfl, .inr (.inr (.inr ⟨xs, ys, hv, hu, el, fun H1 s1 => ?_⟩))⟩
    obtain ⟨p, rfl, hp, h1, h2⟩ := hv.same s1
    obtain ⟨q, rfl, hq, _⟩ := hu.same s1
    exact ⟨p, q, xs, ys, rfl, hp, hq, el, h2, fun r H2 s2 _ hr => k r H2 (s1.trans s2) hr⟩
abbrev s_times : Stmt := top 19
theorem sc_times : FnScope ["f", "g"] ["f", "g"] (defScope s_times) := ⟨rfl, rfl, rfl, by decide +kernel, rfl, by decide +kernel, by decide +kernel⟩

def spTimes (K : PySem.W.Frag) (CM : Addr) : Sp := fun vs H Q E => ∃ v u : V, vs = [v, u] ∧ Pair2 K H v u (∀ H', Same H H' → E (.ref CM) none H') (fun xs ys => nm (sr xs) xs.length < 2 ^ 200000 ∧ nm (sr ys) xs.length < 2 ^ 200000 ∧ ∀ r H', Same H H' → H' r = some (.tup ((mulS xs ys).map V.int)) → Q (.ref r) H')
theorem cal_times (D : Dn K mg "times" s_times ["f", "g"]) (B : Bl mg) (c__check_pair : CalX P w K mg base "_check_pair" 5 ["f", "g"] (spPair K CM)) (c_product_of : Cal P w K mg base "product_of" 1 ["f", "g"] spProd) (e_E : ErrO K mg CM) : CalX P w K mg base "times" 6 ["f", "g"] (spTimes K CM) := by
  refine D.calX sc_times (fun vs H Q E h => by obtain ⟨v, u, rfl, _⟩ := h; rfl) (fun f cdv A outer s H vs Q E hr h => ?_)
  obtain ⟨v, u, rfl, h⟩ := h
  refine ⟨_, (pss_cons (ps_expr (pe_calS c__check_pair (takes_of rfl rfl rfl rfl) (hr.mono (by decide)) rfl (pa_cons (pv 0) (pa_cons (pv 1) pa_nil))))
  (pss_one (ps_ret (pe_cal c_product_of (hr.mono (by decide)) rfl (pa_cons (pv 0) (pa_cons (pv 1) pa_nil)))))), ?_⟩
  walk_at "rd"
  rcases h with h | h | h | ⟨xs, ys, hv, hu, el, n1, n2, k⟩
  · exact ⟨v, u, rfl, .inl h⟩
  · exact ⟨v, u, rfl, .inr (.inl h)⟩
  · exact ⟨v, u, rfl, .inr (.inr (.inl h))⟩
  · refine ⟨v, u, rfl, .inr (.inr (.inr ⟨xs, ys, hv, hu, el, fun H1 s1 => ?_⟩))⟩
    obtain ⟨p, rfl, hp, h1, h2⟩ := hv.same s1
    obtain ⟨q, rfl, hq, _⟩ := hu.same s1
    exact ⟨p, q, xs, ys, rfl, hp, hq, el, h2, h1, n1, n2, fun r H2 s2 _ hr => k r H2 (s1.trans s2) hr⟩
abbrev s_multiple : Stmt := top 17
theorem sc_multiple : FnScope ["f", "c"] ["f", "c"] (defScope s_multiple) := ⟨rfl, rfl, rfl, by decide +kernel, rfl, by decide +kernel, by decide +kernel⟩

def spMult (K : PySem.W.Frag) (CM : Addr) : Sp := fun vs H Q E => ∃ (v : V) (c : Int), vs = [v, .int c] ∧ ((StB K H v ∧ ∀ H', Same H H' → E (.ref CM) none H') ∨
  ∃ xs, GoodS H v xs ∧ (∀ x ∈ xs, IntMulOk c x) ∧ ∀ r H', Same H H' → H' r = some (.tup ((xs.map fun x => c * x).map V.int)) → Q (.ref r) H')
theorem cal_mult (D : Dn K mg "multiple" s_multiple ["f", "c"]) (B : Bl mg) (c_check_series : CalX P w K mg base "check_series" 4 ["f"] (spChkS K CM)) (c_scaled : Cal P w K mg base "scaled" 1 ["v", "c"] spSc) (e_E : ErrO K mg CM) : CalX P w K mg base "multiple" 5 ["f", "c"] (spMult K CM) := by
  refine D.calX sc_multiple (fun vs H Q E h => by obtain ⟨v, c, rfl, _⟩ := h; rfl) (fun f cdv A outer s H vs Q E hr h => ?_)
  obtain ⟨v, c, rfl, h⟩ := h
  refine ⟨_, (pss_cons (ps_expr (pe_calS c_check_series (takes_of rfl rfl rfl rfl) (hr.mono (by decide)) rfl (pa_cons (pv 0) pa_nil)))
  (pss_one (ps_ret (pe_cal c_scaled (hr.mono (by decide)) rfl (pa_cons (pv 0) (pa_cons (pv 1) pa_nil)))))), ?_⟩
  walk_at "rd"
  rcases h with ⟨h, e⟩ | ⟨xs, hv, ok, k⟩
  · exact chk_bad h e
  · refine chk_good hv fun H1 s1 => ?_
    obtain ⟨p, rfl, hp, h1, h2⟩ := hv.same s1
    exact ⟨p, xs, c, rfl, hp, h2, ok, fun r H2 s2 _ hr => k r H2 (s1.trans s2) hr⟩
abbrev s_power : Stmt := top 22
theorem sc_power : FnScope ["f", "n"] ["f", "n"] (defScope s_power) := ⟨rfl, rfl, rfl, by decide +kernel, rfl, by decide +kernel, by decide +kernel⟩

def spPower (K : PySem.W.Frag) (CM : Addr) : Sp := fun vs H Q E => ∃ (v : V) (n : Nat), vs = [v, .int n] ∧ ((StB K H v ∧ ∀ H', Same H H' → E (.ref CM) none H') ∨
  ∃ xs B, GoodS H v xs ∧ nm (sr xs) xs.length ≤ B ∧ 1 ≤ B ∧ B ^ n < 2 ^ 100000 ∧ ∀ r H', Same H H' → H' r = some (.tup ((powL xs n).map V.int)) → Q (.ref r) H')
theorem cal_power (D : Dn K mg "power" s_power ["f", "n"]) (B : Bl mg) (c_check_series : CalX P w K mg base "check_series" 4 ["f"] (spChkS K CM)) (c_power_of : Cal P w K mg base "power_of" 2 ["f", "n"] spPw) (e_E : ErrO K mg CM) : CalX P w K mg base "power" 5 ["f", "n"] (spPower K CM) := by
  refine D.calX sc_power (fun vs H Q E h => by obtain ⟨v, c, rfl, _⟩ := h; rfl) (fun f cdv A outer s H vs Q E hr h => ?_)
  obtain ⟨v, n, rfl, h⟩ := h
  refine ⟨_, (pss_cons (ps_expr (pe_calS c_check_series (takes_of rfl rfl rfl rfl) (hr.mono (by decide)) rfl (pa_cons (pv 0) pa_nil)))
  (pss_one (ps_ret (pe_cal c_power_of (hr.mono (by decide)) rfl (pa_cons (pv 0) (pa_cons (pv 1) pa_nil)))))), ?_⟩
  walk_at "rd"
  rcases h with ⟨h, e⟩ | ⟨xs, b, hv, b0, b1, b2, k⟩
  · exact chk_bad h e
  · refine chk_good hv fun H1 s1 => ?_
    obtain ⟨p, rfl, hp, h1, h2⟩ := hv.same s1
    exact ⟨p, xs, n, b, rfl, hp, h1, h2, b0, b1, b2, fun r H2 s2 hr => k r H2 (s1.trans s2) hr⟩
abbrev s_shifted : Stmt := top 23
theorem sc_shifted : FnScope ["f", "n", "size"] ["f", "n"] (defScope s_shifted) := ⟨rfl, rfl, rfl, by decide +kernel, rfl, by decide +kernel, by decide +kernel⟩

def shL (xs : List Int) (n : Nat) : List Int := List.replicate (min n xs.length) 0 ++ xs.take (xs.length - min n xs.length)
def spShift (K : PySem.W.Frag) (CM : Addr) : Sp := fun vs H Q E => ∃ (v : V) (n : Nat), vs = [v, .int n] ∧ ((StB K H v ∧ ∀ H', Same H H' → E (.ref CM) none H') ∨
  ∃ xs, GoodS H v xs ∧ ∀ r H', Same H H' → H' r = some (.tup ((shL xs n).map V.int)) → Q (.ref r) H')
theorem slA_end {K : PySem.W.Frag} {H : Hp} {a : Addr} {xs : List V} {n : Nat} {Q : VK} (ha : H a = some (.tup xs)) (q : ∀ p H', Same H H' → H' p = some (.tup (xs.take n)) → Q (.ref p) H') :
    ∃ l, SqT K H a l ∧ (HT.sIx l.length 0 none = 0 ∧ HT.sIx l.length l.length (some (n : Int)) = l.length → Q (.ref a) H) ∧ (¬ (HT.sIx l.length 0 none = 0 ∧ HT.sIx l.length l.length (some (n : Int)) = l.length) → ∀ p, H p = none → Q (.ref p) (upd H p (.tup (cutV l none (some (n : Int)))))) := by
  have e : HT.sIx xs.length xs.length (some (n : Int)) = min n xs.length := HT.sIx_nat _ _ n
  have c : cutV xs none (some (n : Int)) = xs.take n := by
    unfold cutV
    rw [e, HT.sIx_none, List.drop_zero, Nat.sub_zero]
    rcases Nat.le_total n xs.length with h | h
    · rw [Nat.min_eq_left h]
    · rw [Nat.min_eq_right h, List.take_length, List.take_of_length_le h]
  refine ⟨xs, SqT.of ha, fun ⟨_, h⟩ => q a H (Same.refl _) ?_, fun _ p np => q p _ (same_upd np) (by rw [upd_same, c])⟩
  rw [e] at h
  rw [ha, List.take_of_length_le (by omega)]
theorem cal_shift (D : Dn K mg "shifted" s_shifted ["f", "n"]) (B : Bl mg) (c_check_series : CalX P w K mg base "check_series" 4 ["f"] (spChkS K CM)) (e_E : ErrO K mg CM) : CalX P w K mg base "shifted" 5 ["f", "n"] (spShift K CM) := by
  refine D.calX sc_shifted (fun vs H Q E h => by obtain ⟨v, c, rfl, _⟩ := h; rfl) (fun f cdv A outer s H vs Q E hr h => ?_)
  obtain ⟨v, n, rfl, h⟩ := h
  refine ⟨_, (pss_cons (ps_expr (pe_calS c_check_series (takes_of rfl rfl rfl rfl) (hr.mono (by decide)) rfl (pa_cons (pv 0) pa_nil)))
  (pss_cons (ps_set (i := 2) sc_shifted.nd rfl (Or.inl rfl) (pe_callB cr_lenS rfl B.len (by decide +kernel) (pa_cons (pv 0) pa_nil)))
  (pss_cons (ps_set (i := 1) sc_shifted.nd rfl (Or.inl rfl) (pe_callB (call_min2 rfl) rfl B.min (by decide +kernel) (pa_cons (pv 1) (pa_cons (pv 2) pa_nil))))
  (pss_one (ps_ret (pe_op op_catA (pe_op op_repA (pe_tup (pa_cons pe_int pa_nil)) (pv 1)) (pe_slice sl_tupA (pv 0) po_none (po_some (pe_op op_sub (pv 2) (pv 1)))))))))), ?_⟩
  rw [CB.rd_seq]
  walk_at "rs"
  rcases h with ⟨h, e⟩ | ⟨xs, hv, k⟩
  · exact chk_bad h e
  · refine chk_good hv fun H1 s1 => ?_
    obtain ⟨p, rfl, hp, h1, h2⟩ := hv.same s1
    walk_at "nx"
    refine ⟨(xs.map V.int).length, .inr ⟨_, SqT.of hp, rfl⟩, ?_⟩
    rw [List.length_map]
    walk_at "nx"
    have hm : (if (xs.length : Int) < (n : Int) then (xs.length : Int) else (n : Int)) = ((min n xs.length : Nat) : Int) := by split <;> omega
    rw [hm]
    refine ⟨by decide, fun p1 np1 => ?_⟩
    rw [rd_repA]
    have s2 := same_upd (o := HO.tup [V.int 0]) np1
    have h2' := s2 _ _ hp
    have h2'' : (upd H1 p1 (.tup [V.int 0])) p1 = some (.tup [V.int 0]) := upd_same
    generalize upd H1 p1 (.tup [V.int 0]) = H2 at *
    refine ⟨p1, min n xs.length, [.int 0], rfl, rfl, h2'', by decide, by omega, by decide, fun p3 H3 s3 h3 => ?_⟩
    rw [rep_flat] at h3
    have hp3 := s3 _ _ h2'
    have el : (xs.length : Int) - ((min n xs.length : Nat) : Int) = ((xs.length - min n xs.length : Nat) : Int) := by omega
    rw [el]
    have ls : ∀ (q : Addr) (G : Hp), Same H3 G → G q = some (.tup ((xs.map V.int).take (xs.length - min n xs.length))) → ∀ r G', Same G G' → G' r = some (.tup (List.replicate (min n xs.length) (V.int 0) ++ (xs.map V.int).take (xs.length - min n xs.length))) → Q (.ref r) G' := fun q G sG _ r G' sG' hr => by
      refine k r G' ((((s1.trans s2).trans s3).trans sG).trans sG') ?_
      rw [hr]
      unfold shL
      rw [List.map_append, List.map_replicate, List.map_take]
    have lz : (List.replicate (min n xs.length) (V.int 0)).length + ((xs.map V.int).take (xs.length - min n xs.length)).length ≤ 100000 := by
      rw [List.length_replicate, List.length_take, List.length_map]
      omega
    have ec : cutV (xs.map V.int) none (some ((xs.length - min n xs.length : Nat) : Int)) = (xs.map V.int).take (xs.length - min n xs.length) := by
      unfold cutV
      rw [show HT.sIx (xs.map V.int).length (xs.map V.int).length (some ((xs.length - min n xs.length : Nat) : Int)) = min (xs.length - min n xs.length) (xs.map V.int).length from HT.sIx_nat _ _ _, HT.sIx_none, List.drop_zero, Nat.sub_zero, List.length_map, Nat.min_eq_left (by omega)]
    refine ⟨_, SqT.of hp3, fun h => ?_, fun _ q nq => ?_⟩
    · have h := h.2
      rw [show HT.sIx (xs.map V.int).length (xs.map V.int).length (some ((xs.length - min n xs.length : Nat) : Int)) = min (xs.length - min n xs.length) (xs.map V.int).length from HT.sIx_nat _ _ _, List.length_map] at h
      have et : (xs.map V.int).take (xs.length - min n xs.length) = xs.map V.int := List.take_of_length_le (by rw [List.length_map]; omega)
      refine ⟨p3, rfl, cat_end h3 hp3 (by rw [et] at lz; exact lz) fun r G' sG' hr => ls p H3 (Same.refl _) (by rw [et]; exact hp3) r G' sG' (by rw [et]; exact hr)⟩
    · rw [ec]
      refine ⟨p3, rfl, cat_end ((same_upd nq) _ _ h3) upd_same lz fun r G' sG' hr => ls q _ (same_upd nq) upd_same r G' sG' hr⟩
abbrev s_check_length : Stmt := top 13
theorem sc_check_length : FnScope ["size"] ["size"] (defScope s_check_length) := ⟨rfl, rfl, rfl, by decide +kernel, rfl, by decide +kernel, by decide +kernel⟩

def BadLn (K : PySem.W.Frag) (H : Hp) (v : V) : Prop := (∃ T, TyX K H v (.type T) ∧ T ∈ kinds ∧ (T == "int") = false) ∨ ∃ n : Int, v = .int n ∧ decide (1 ≤ n ∧ n ≤ 400) = false
def spLenV (K : PySem.W.Frag) : Sp := fun vs H Q _ => ∃ v : V, vs = [v] ∧ ((BadLn K H v ∧ Q (.bl false) H) ∨ ∃ n : Int, v = .int n ∧ 1 ≤ n ∧ n ≤ 400 ∧ Q (.bl true) H)
theorem cal_lenV (D : Dn K mg "_is_length" s__is_length ["value"]) (B : Bl mg) (c_is_integer : Cal P w K mg base "is_integer" 1 ["value"] (spInt K)) : Cal P w K mg base "_is_length" 2 ["value"] (spLenV K) := by
  refine D.cal sc__is_length (fun vs H Q E h => by obtain ⟨v, rfl, _⟩ := h; rfl) (fun f cdv A outer s H vs Q E hr h => ?_)
  obtain ⟨v, rfl, h⟩ := h
  refine ⟨_, (pss_one (ps_ret (pe_and (pe_cal c_is_integer (hr.mono (by decide)) rfl (pa_cons (pv 0) pa_nil)) (pe_one (pe_chain op_le op_le pe_int (pv 0) (pe_glob (v := .int 400) rfl B.c_LONGEST.choose_spec ⟨_, rfl⟩)))))), ?_⟩
  walk_at "rd"
  rcases h with ⟨⟨T, ty, hT, hi⟩ | ⟨n, rfl, hn⟩, q⟩ | ⟨n, rfl, n1, n2, q⟩
  · refine ⟨v, T, rfl, ty, hT, false, by rw [hi], ?_⟩
    rw [if_neg (by decide)]
    exact q
  · refine ⟨.int n, "int", rfl, .base (.int n), by decide, true, rfl, ?_⟩
    rw [if_pos rfl]
    refine ⟨n, rfl, ?_⟩
    have hn := of_decide_eq_false hn
    by_cases c : 1 ≤ n
    · rw [if_pos c]
      refine ⟨n, rfl, ?_⟩
      rw [decide_eq_false (by omega)]
      exact q
    · rw [if_neg c]
      exact q
  · refine ⟨.int n, "int", rfl, .base (.int n), by decide, true, rfl, ?_⟩
    rw [if_pos rfl]
    refine ⟨n, rfl, ?_⟩
    rw [if_pos n1]
    refine ⟨n, rfl, ?_⟩
    rw [decide_eq_true n2]
    exact q
def spChkL (K : PySem.W.Frag) (CM : Addr) : Sp := fun vs H Q E => ∃ v : V, vs = [v] ∧ ((BadLn K H v ∧ E (.ref CM) none H) ∨ ∃ n : Int, v = .int n ∧ 1 ≤ n ∧ n ≤ 400 ∧ Q .non H)
theorem cal_chkl (D : Dn K mg "check_length" s_check_length ["size"]) (B : Bl mg) (c__is_length : Cal P w K mg base "_is_length" 2 ["value"] (spLenV K)) (e_E : ErrO K mg CM) : CalX P w K mg base "check_length" 3 ["size"] (spChkL K CM) := by
  refine D.calX sc_check_length (fun vs H Q E h => by obtain ⟨v, rfl, _⟩ := h; rfl) (fun f cdv A outer s H vs Q E hr h => ?_)
  obtain ⟨v, rfl, h⟩ := h
  refine ⟨_, (pss_one (ps_if (pt_not (pt_val (pe_cal c__is_length (hr.mono (by decide)) rfl (pa_cons (pv 0) pa_nil)))) (pss_one (ps_mal e_E.m rfl (takes_of rfl rfl rfl rfl) rfl)) pss_nil)), ?_⟩
  walk_at "rd"
  rcases h with ⟨h, e⟩ | ⟨n, rfl, n1, n2, k⟩
  · exact ⟨v, rfl, .inl ⟨h, false, rfl, e⟩⟩
  · exact ⟨_, rfl, .inr ⟨n, rfl, n1, n2, true, rfl, k⟩⟩
end

section
variable {P : Program} {w : World} {K : PySem.W.Frag} {mg : Str → Option Value} {base : Heap} {CM : Addr}
theorem ixNk {n j : Nat} (hj : j < n) : ixN n (j : Int) = some j := by
  show (if (0 : Int) ≤ (j : Int) then (if (j : Int) < (n : Int) then some (j : Int).toNat else none) else _) = _
  rw [if_pos (show (0 : Int) ≤ (j : Int) by omega), if_pos (show (j : Int) < (n : Int) by omega), Int.toNat_natCast]
/-- in the midst of a row: j places are done -/
def midL (xs ys : List Int) (i j : Nat) : List Int := mk xs.length fun k => if i ≤ k ∧ k < i + j then cv (cutS (i + 1) (sr xs)) (sr ys) k else cv (cutS i (sr xs)) (sr ys) k
theorem mid_zero (xs ys : List Int) (i : Nat) : midL xs ys i 0 = parts xs ys i := mk_ext fun k _ => by
  show (if i ≤ k ∧ k < i + 0 then _ else _) = _
  rw [if_neg (by omega)]
theorem mid_all (xs ys : List Int) (i : Nat) : midL xs ys i (xs.length - i) = parts xs ys (i + 1) := mk_ext fun k hk => by
  show (if i ≤ k ∧ k < i + (xs.length - i) then _ else _) = _
  by_cases c : i ≤ k
  · rw [if_pos (by omega)]
  · rw [if_neg (by omega), cv_cut_succ, if_neg c, Int.add_zero]
theorem mid_step {xs ys : List Int} {i j : Nat} (hj : i + j < xs.length) : (midL xs ys i j).set (i + j) (cv (cutS i (sr xs)) (sr ys) (i + j) + sr xs i * sr ys j) = midL xs ys i (j + 1) := by
  refine List.ext_getElem? fun k => ?_
  have hl : (midL xs ys i j).length = xs.length := mk_len
  rcases Nat.lt_or_ge k xs.length with h | h
  · have g2 : (midL xs ys i (j + 1))[k]? = some (if i ≤ k ∧ k < i + (j + 1) then cv (cutS (i + 1) (sr xs)) (sr ys) k else cv (cutS i (sr xs)) (sr ys) k) := mk_get h
    have g1 : (midL xs ys i j)[k]? = some (if i ≤ k ∧ k < i + j then cv (cutS (i + 1) (sr xs)) (sr ys) k else cv (cutS i (sr xs)) (sr ys) k) := mk_get h
    rw [g2]
    by_cases e : i + j = k
    · subst e
      rw [List.getElem?_set_self (by rw [hl]; exact h), if_pos (by omega), cv_cut_succ, if_pos (by omega), show i + j - i = j by omega]
    · rw [List.getElem?_set_ne e, g1]
      congr 1
      by_cases c : i ≤ k ∧ k < i + j
      · rw [if_pos c, if_pos (by omega)]
      · rw [if_neg c, if_neg (by omega)]
  · rw [List.getElem?_eq_none (by rw [List.length_set, hl]; exact h), List.getElem?_eq_none (by unfold midL; rw [mk_len]; exact h)]
theorem sr_at {ns : List Int} {k : Nat} (h : k < ns.length) : atI (ns.map V.int) (k : Int) = some (.int (sr ns k)) := by
  refine atI_nat ?_
  unfold sr
  rw [List.getElem?_map, List.getD_eq_getElem?_getD, List.getElem?_eq_getElem h]
  rfl
abbrev s__law_joined : Stmt := top 33
theorem sc__law_joined : FnScope ["f", "g", "found", "i", "item", "j"] ["f", "g"] (defScope s__law_joined) := ⟨rfl, rfl, rfl, by decide +kernel, rfl, by decide +kernel, by decide +kernel⟩

def spJoin : Sp := fun vs H Q _ => ∃ (p q : Addr) (xs ys : List Int), vs = [.ref p, .ref q] ∧ H p = some (.tup (xs.map V.int)) ∧ H q = some (.tup (ys.map V.int)) ∧ xs.length = ys.length ∧ xs.length ≤ 400 ∧
  nm (sr xs) xs.length < 2 ^ 200000 ∧ nm (sr ys) xs.length < 2 ^ 200000 ∧
  ∀ r H', Same H H' → H' r = some (.tup ((mulS xs ys).map V.int)) → Q (.ref r) H'
theorem cal_join (D : Dn K mg "_law_joined" s__law_joined ["f", "g"]) (B : Bl mg) : Cal P w K mg base "_law_joined" 1 ["f", "g"] spJoin := by
  refine D.cal sc__law_joined (fun vs H Q E h => by obtain ⟨p, q, xs, ys, rfl, _⟩ := h; rfl) (fun f cdv A outer s H vs Q E hr h => ?_)
  obtain ⟨p, q, xs, ys, rfl, hp, hq, hl, h400, n1, n2, k⟩ := h
  refine ⟨_, (pss_cons (ps_setLc (i := 2) (own := [("item", 4)]) rfl sc__law_joined.nd rfl rfl (sw_true rfl rfl rfl (by decide +kernel)) (pi_tup (pv 0)) (blkOk_by (N := ["f", "g", "found", "i", "item", "j"]) (sc := defScope s__law_joined) (own := [("item", 4)]) (by decide +kernel)) (fun _ _ _ _ _ => (pg_name (i := 4) sc__law_joined.nd rfl (Or.inl rfl))) (fun _ _ _ _ _ => pts_nil) (fun _ _ _ _ _ => pe_int))
  (pss_cons (ps_for PassesOwn.never rfl (pi_range1 rfl B.range (pa_cons (pe_callB cr_lenS rfl B.len (by decide +kernel) (pa_cons (pv 0) pa_nil)) pa_nil)) (pg_name (i := 3) sc__law_joined.nd rfl (Or.inl rfl)) (pss_one (ps_if (pt_cmpR op_ne (pe_ix ix_tup (pv 0) (pv 3) (fun _ _ => rfl)) pe_int (nomark _)) (pss_one (ps_for PassesOwn.never rfl (pi_range1 rfl B.range (pa_cons (pe_op op_sub (pe_callB cr_lenS rfl B.len (by decide +kernel) (pa_cons (pv 0) pa_nil)) (pv 3)) pa_nil)) (pg_name (i := 5) sc__law_joined.nd rfl (Or.inl rfl)) (pss_one (ps_asg (pe_op op_add (pe_ix ix_list (pv 2) (pe_op op_add (pv 3) (pv 5)) (fun _ _ => rfl)) (pe_op op_mulI (pe_ix ix_tup (pv 0) (pv 3) (fun _ _ => rfl)) (pe_ix ix_tup (pv 1) (pv 5) (fun _ _ => rfl)))) (pg_sub (pv 2) (pe_op op_add (pv 3) (pv 5)) set_list))))) pss_nil)))
  (pss_one (ps_ret (pe_callTy cr_tupOf rfl B.tuple boot_tuple (pa_cons (pv 2) pa_nil)))))), ?_⟩
  rw [CB.rd_seq]
  walk_at "rs"
  refine ⟨⟨_, SqT.of hp⟩, LcT.p (xs := xs.map V.int) (fun _ => some (V.int 0)) (by rw [List.length_map]; omega) (fun H1 s1 => SqT.of (s1 _ _ hp)) ?_ ?_⟩
  · intro i x hx H1 s1 M S hM hS
    walk_at "rd"
    exact hM _ _ rfl (Same.refl _)
  intro D1 H1 nD s1 hD
  have d1 : H1 D1 = some (.lst ((parts xs ys 0).map V.int)) := by
    rw [hD, fm_some (fun _ => V.int 0), parts_zero, List.map_replicate, List.length_map]
    congr 2
    refine List.eq_replicate_iff.mpr ⟨by rw [List.length_map, List.length_range], fun b hb => ?_⟩
    obtain ⟨_, _, rfl⟩ := List.mem_map.mp hb
    rfl
  rw [CB.rd_seq]
  walk_at "rs"
  refine ⟨(xs.map V.int).length, .inr ⟨_, SqT.of (s1 _ _ hp), rfl⟩, ?_⟩
  rw [List.length_map]
  refine ⟨by omega, by omega, ?_⟩
  rw [Int.toNat_natCast]
  have szL : 100000 ≤ sizeLine := by rw [PySem.sizeLine_eq]; decide
  refine ForR.w (fun i σ H2 => (∃ t3 t5, σ = [some (.ref p), some (.ref q), some (.ref D1), t3, none, t5]) ∧ Same H H2 ∧ H2 D1 = some (.lst ((parts xs ys i).map V.int))) ⟨⟨_, _, rfl⟩, s1, d1⟩ ?_ ?_
  · rintro i σ H2 hi ⟨⟨t3, t5, rfl⟩, s2, d2⟩ N hN
    rw [Int.zero_add]
    walk_at "rs"
    refine ⟨_, SqT.of (s2 _ _ hp), _, sr_at hi, ?_⟩
    refine ⟨rfl, ?_⟩
    by_cases a0 : sr xs i = 0
    · rw [if_pos (by rw [a0])]
      refine hN _ _ ⟨⟨_, _, rfl⟩, s2, ?_⟩
      rw [parts_skip a0]
      exact d2
    rw [if_neg (fun z => a0 (V.int.inj z))]
    refine ⟨(xs.map V.int).length, .inr ⟨_, SqT.of (s2 _ _ hp), rfl⟩, ?_⟩
    rw [List.length_map]
    refine ⟨by omega, by omega, ?_⟩
    rw [show ((xs.length : Int) - (i : Int)).toNat = xs.length - i by omega]
    refine ForR.w (fun j σ H3 => (∃ t5, σ = [some (.ref p), some (.ref q), some (.ref D1), some (.int i), none, t5]) ∧ Same H H3 ∧ H3 D1 = some (.lst ((midL xs ys i j).map V.int))) ⟨⟨_, rfl⟩, s2, by rw [mid_zero]; exact d2⟩ ?_ ?_
    · rintro j σ H3 hj ⟨⟨t6, rfl⟩, s3, d3⟩ N3 hN3
      have hij : i + j < xs.length := by omega
      have ml : (midL xs ys i j).length = xs.length := mk_len
      have mg : (midL xs ys i j)[i + j]? = some (cv (cutS i (sr xs)) (sr ys) (i + j)) := by
        unfold midL
        rw [mk_get hij, if_neg (by omega)]
      rw [Int.zero_add]
      walk_at "rs"
      rw [show (i : Int) + (j : Int) = ((i + j : Nat) : Int) by omega]
      refine ⟨_, SqL.of d3, _, atI_nat (by rw [List.getElem?_map, mg]; rfl), _, SqT.of (s3 _ _ hp), _, sr_at (by omega), _, SqT.of (s3 _ _ hq), _, sr_at (by omega), _, rfl, _, rfl, nm_ok n1 n2 (by omega) (by omega), _, rfl, _, d3, i + j, ixNk (by rw [List.length_map, ml]; exact hij), hN3 _ _ ⟨⟨_, rfl⟩, same_at s3 nD, ?_⟩⟩
      rw [upd_same, ← mid_step hij, List.map_set]
    · rintro σ H3 ⟨⟨t6, rfl⟩, s3, d3⟩
      rw [mid_all] at d3
      exact hN _ _ ⟨⟨_, _, rfl⟩, s3, d3⟩
  · rintro σ H2 ⟨⟨t3, t5, rfl⟩, s2, d2⟩
    rw [parts_all] at d2
    walk_at "rs"
    exact tup_end d2 fun r nr => k r _ (s2.trans (same_upd nr)) upd_same
abbrev s__law_raised : Stmt := top 34
theorem sc__law_raised : FnScope ["f", "n", "found", "turn"] ["f", "n"] (defScope s__law_raised) := ⟨rfl, rfl, rfl, by decide +kernel, rfl, by decide +kernel, by decide +kernel⟩

def spRaise : Sp := fun vs H Q _ => ∃ (p : Addr) (xs : List Int) (n B : Nat), vs = [.ref p, .int n] ∧ n ≤ 1000 ∧ H p = some (.tup (xs.map V.int)) ∧ 1 ≤ xs.length ∧ xs.length ≤ 400 ∧ nm (sr xs) xs.length ≤ B ∧ 1 ≤ B ∧ B ^ n < 2 ^ 100000 ∧
  ∀ r H', Same H H' → H' r = some (.tup ((powL xs n).map V.int)) → Q (.ref r) H'
theorem cal_raise (D : Dn K mg "_law_raised" s__law_raised ["f", "n"]) (B : Bl mg) (c__law_joined : Cal P w K mg base "_law_joined" 1 ["f", "g"] spJoin) : Cal P w K mg base "_law_raised" 2 ["f", "n"] spRaise := by
  refine D.cal sc__law_raised (fun vs H Q E h => by obtain ⟨p, xs, n, b, rfl, _⟩ := h; rfl) (fun f cdv A outer s H vs Q E hr h => ?_)
  obtain ⟨p, xs, n, b, rfl, hn, hp, h1, h400, hb, b1, hB, k⟩ := h
  refine ⟨_, (pss_cons (ps_set (i := 2) sc__law_raised.nd rfl (Or.inl rfl) (pe_op op_catA (pe_tup (pa_cons pe_int pa_nil)) (pe_op op_repA (pe_tup (pa_cons pe_int pa_nil)) (pe_op op_sub (pe_callB cr_lenS rfl B.len (by decide +kernel) (pa_cons (pv 0) pa_nil)) pe_int))))
  (pss_cons (ps_for PassesOwn.never rfl (pi_range1 rfl B.range (pa_cons (pv 1) pa_nil)) (pg_name (i := 3) sc__law_raised.nd rfl (Or.inl rfl)) (pss_one (ps_set (i := 2) sc__law_raised.nd rfl (Or.inl rfl) (pe_cal c__law_joined (hr.mono (by decide)) rfl (pa_cons (pv 2) (pa_cons (pv 0) pa_nil))))))
  (pss_one (ps_ret (pv 2))))), ?_⟩
  refine seq_cut (fun σ H2 => ∃ r0, σ = [some (.ref p), some (.int n), some (.ref r0), none] ∧ Same H H2 ∧ H2 r0 = some (.tup ((powL xs 0).map V.int))) (fun R hR => ?_) ?_
  · walk_at "rs"
    refine ⟨by decide, fun p1 np1 => ⟨by decide, fun p2 np2 => ?_⟩⟩
    have s1 := (same_upd (o := HO.tup [V.int 1]) np1).trans (same_upd (o := HO.tup [V.int 0]) np2)
    have hp1 := same_upd (o := HO.tup [V.int 0]) np2 _ _ (upd_same (H := H) (a := p1) (o := HO.tup [V.int 1]))
    have hp2 : (upd (upd H p1 (.tup [V.int 1])) p2 (.tup [V.int 0])) p2 = some (.tup [V.int 0]) := upd_same
    generalize upd (upd H p1 (.tup [V.int 1])) p2 (.tup [V.int 0]) = H2 at *
    refine ⟨(xs.map V.int).length, .inr ⟨_, SqT.of (s1 _ _ hp), rfl⟩, ?_⟩
    rw [List.length_map, rd_repA]
    refine ⟨p2, xs.length - 1, [.int 0], rfl, by congr 1; omega, hp2, by decide, by omega, by decide, fun p3 H3 s3 h3 => ?_⟩
    refine ⟨p3, rfl, cat_end (Q := fun v G => R [some (.ref p), some (.int n), some v, none] G) (s3 _ _ hp1) h3 (by rw [rep_flat, List.length_replicate]; show 1 + _ ≤ _; omega) fun p4 H4 s4 h4 => hR _ _ ⟨p4, rfl, (s1.trans s3).trans s4, ?_⟩⟩
    rw [h4, rep_flat, unit_app h1]
    rfl
  rintro σ H2 ⟨r0, rfl, s1, hr0⟩
  rw [CB.rd_seq]
  walk_at "rs"
  refine ⟨by omega, by omega, ?_⟩
  rw [Int.toNat_natCast]
  have big : (2 : Nat) ^ 100000 < 2 ^ 200000 := Nat.pow_lt_pow_right (by decide) (by decide)
  refine ForR.w (fun i σ H3 => (∃ r t3, σ = [some (.ref p), some (.int n), some (.ref r), t3] ∧ H3 r = some (.tup ((powL xs i).map V.int))) ∧ Same H H3) ⟨⟨r0, none, rfl, hr0⟩, s1⟩ ?_ ?_
  · rintro i σ H3 hi ⟨⟨r, t3, rfl, hr3⟩, s3⟩ N hN
    walk_at "rs"
    have pl : (powL xs i).length = xs.length := mk_len
    have bi : b ^ i < 2 ^ 200000 := Nat.lt_of_le_of_lt (Nat.pow_le_pow_right b1 (Nat.le_of_lt hi)) (Nat.lt_trans hB big)
    have b1' : b < 2 ^ 200000 := Nat.lt_of_le_of_lt (Nat.le_self_pow (by omega) b) (Nat.lt_trans hB big)
    have np : nm (sr (powL xs i)) xs.length ≤ b ^ i := by
      rw [show nm (sr (powL xs i)) xs.length = nm (pw (sr xs) i) xs.length from nm_ext sr_mk]
      clear hi pl bi hr3 hN
      induction i with
      | zero => exact nm_one _
      | succ i ih =>
        refine Nat.le_trans nm_cv ?_
        rw [Nat.pow_succ]
        exact Nat.mul_le_mul ih hb
    refine ⟨r, p, powL xs i, xs, rfl, hr3, s3 _ _ hp, pl, by omega, by rw [pl]; exact Nat.lt_of_le_of_lt np bi, by rw [pl]; exact Nat.lt_of_le_of_lt hb b1', fun r4 H4 s4 hr4 => hN _ _ ⟨⟨r4, _, rfl, ?_⟩, s3.trans s4⟩⟩
    rw [hr4]
    unfold mulS powL
    rw [mk_len]
    congr 2
    congr 1
    exact mk_ext (EqS.cv sr_mk EqS.refl)
  · rintro σ H3 ⟨⟨r, t3, rfl, hr3⟩, s3⟩
    walk_at "rs"
    exact k r H3 s3 hr3
end

/-! ### the product of Euler -/
section
theorem nm_le {c : Nat} : ∀ {n : Nat} {a : Ser}, (∀ k, k < n → (a k).natAbs ≤ c) → nm a n ≤ c * n
  | 0, a, _ => Nat.zero_le _
  | n + 1, a, h => by
    have := nm_le (n := n) (a := tl a) fun k hk => h (k + 1) (by omega)
    have := h 0 (by omega)
    show (a 0).natAbs + nm (tl a) n ≤ c * (n + 1)
    rw [Nat.mul_succ]
    omega
/-- 1 - q^m -/
def dn (m : Nat) : Ser := sadd one (dl m (-1))
theorem cv_dn {m k : Nat} {b : Ser} : cv (dn m) b k = b k - if m ≤ k then b (k - m) else 0 := by
  unfold dn
  rw [cv_addL, cv_one, cv_dl]
  split <;> omega
def eul (n : Nat) : Nat → Ser
  | 0 => one
  | m + 1 => cv (pw (dn (m + 1)) n) (eul n m)
theorem pw_oneS : ∀ n, pw one n = one
  | 0 => rfl
  | n + 1 => by
    show cv (pw one n) one = one
    rw [pw_oneS n, cv_one']
theorem eul_pw {n : Nat} : ∀ m, eul n m = pw (eul 1 m) n
  | 0 => (pw_oneS n).symm
  | m + 1 => by
    show cv (pw (dn (m + 1)) n) (eul n m) = pw (cv (pw (dn (m + 1)) 1) (eul 1 m)) n
    rw [eul_pw m, pw_one, pw_mul]
/-- the same by lists -/
def euStep (N m : Nat) (l : List Int) : List Int := (List.range N).map fun k => l.getD k 0 - if m ≤ k then l.getD (k - m) 0 else 0
theorem euStep_mk {N m : Nat} {a : Ser} : euStep N m (mk N a) = mk N (cv (dn m) a) := mk_ext fun k hk => by
  have e : ∀ j, j < N → (mk N a).getD j 0 = a j := fun j hj => sr_mk j hj
  rw [cv_dn, e k hk]
  by_cases c : m ≤ k
  · rw [if_pos c, if_pos c, e (k - m) (by omega)]
  · rw [if_neg c, if_neg c]
def euL (N : Nat) : Nat → List Int
  | 0 => 1 :: List.replicate (N - 1) 0
  | m + 1 => euStep N (m + 1) (euL N m)
theorem euL_mk {N : Nat} (h : 1 ≤ N) : ∀ m, euL N m = mk N (eul 1 m)
  | 0 => by
    have := unit_app h
    rw [show [V.int 1] ++ List.replicate (N - 1) (V.int 0) = ((1 : Int) :: List.replicate (N - 1) 0).map V.int by rw [List.map_cons, List.map_replicate]; rfl] at this
    exact (List.map_inj_right fun a b e => V.int.inj e).mp this
  | m + 1 => by
    show euStep N (m + 1) (euL N m) = mk N (cv (pw (dn (m + 1)) 1) (eul 1 m))
    rw [euL_mk h m, euStep_mk, pw_one]
/-- the pentagonal places, as they are written -/
def epStep (N : Nat) (l : List Int) (i : Nat) : List Int := if ((i : Int) - N) * (3 * ((i : Int) - N) - 1) / 2 < N then l.set (((i : Int) - N) * (3 * ((i : Int) - N) - 1) / 2).toNat (if ((i : Int) - N) % 2 = 0 then 1 else -1) else l
def epl (N : Nat) : List Int := (List.range (2 * N + 1)).foldl (epStep N) (List.replicate N 0)
theorem epStep_len {N : Nat} {l : List Int} {i : Nat} : (epStep N l i).length = l.length := by
  unfold epStep
  split
  · exact List.length_set ..
  · rfl
theorem ep_fold_len {N : Nat} : ∀ (is : List Nat) (l : List Int), (is.foldl (epStep N) l).length = l.length
  | [], _ => rfl
  | i :: is, l => by
    show (is.foldl (epStep N) (epStep N l i)).length = _
    rw [ep_fold_len is, epStep_len]
theorem epl_len {N : Nat} : (epl N).length = N := by
  unfold epl
  rw [ep_fold_len, List.length_replicate]
theorem ep_fold_small {N : Nat} : ∀ (is : List Nat) (l : List Int), (∀ x ∈ l, x.natAbs ≤ 1) → ∀ x ∈ is.foldl (epStep N) l, x.natAbs ≤ 1
  | [], _, h => h
  | i :: is, l, h => by
    refine ep_fold_small is (epStep N l i) fun x hx => ?_
    unfold epStep at hx
    split at hx
    · rcases List.mem_or_eq_of_mem_set hx with z | z
      · exact h x z
      · rw [z]
        split <;> decide
    · exact h x hx
theorem epl_small {N : Nat} : ∀ x ∈ epl N, x.natAbs ≤ 1 := ep_fold_small _ _ fun x hx => by
  rw [(List.mem_replicate.mp hx).2]
  decide
theorem nm_list {c : Nat} {l : List Int} (h : ∀ x ∈ l, x.natAbs ≤ c) : nm (sr l) l.length ≤ c * l.length := nm_le fun k hk => by
  refine h _ ?_
  unfold sr
  rw [List.getD_eq_getElem?_getD, List.getElem?_eq_getElem hk]
  exact List.getElem_mem hk
theorem ep_eu : (List.range 30).all (fun i => epl (i + 1) == euL (i + 1) i) = true := by decide +kernel
theorem ep_eul {N : Nat} (h1 : 1 ≤ N) (h : N ≤ 30) : epl N = mk N (eul 1 (N - 1)) := by
  obtain ⟨i, rfl⟩ : ∃ i, N = i + 1 := ⟨N - 1, by omega⟩
  have := List.all_eq_true.mp ep_eu i (List.mem_range.mpr (by omega))
  rw [beq_iff_eq] at this
  rw [this, euL_mk h1]
  rfl
theorem short_eq {N n : Nat} (h1 : 1 ≤ N) (h : N ≤ 30) : powL (epl N) n = mk N (eul n (N - 1)) := by
  unfold powL
  rw [epl_len, eul_pw]
  refine mk_ext (EqS.pw ?_ n)
  rw [ep_eul h1 h]
  exact sr_mk
/-! few places -/
def serSp : List (Nat × Int) → Ser
  | [] => fun _ => 0
  | q :: sp => sadd (dl q.1 q.2) (serSp sp)
def stSp (l acc : List Int) (q : Nat × Int) : List Int := List.zipWith (fun x y => x + q.2 * y) acc (List.replicate q.1 0 ++ l)
theorem stSp_mk {N : Nat} {a b : Ser} {q : Nat × Int} : stSp (mk N b) (mk N a) q = mk N (sadd a (cv (dl q.1 q.2) b)) := by
  refine List.ext_getElem? fun k => ?_
  unfold stSp
  rw [List.getElem?_zipWith]
  rcases Nat.lt_or_ge k N with h | h
  · rw [mk_get h, mk_get h]
    have e : (List.replicate q.1 (0 : Int) ++ mk N b)[k]? = some (if q.1 ≤ k then b (k - q.1) else 0) := by
      by_cases c : q.1 ≤ k
      · rw [List.getElem?_append_right (by rw [List.length_replicate]; exact c), List.length_replicate, mk_get (by omega), if_pos c]
      · rw [List.getElem?_append_left (by rw [List.length_replicate]; omega), List.getElem?_replicate, if_pos (by omega), if_neg c]
    rw [e]
    show some (a k + q.2 * _) = some (a k + cv (dl q.1 q.2) b k)
    rw [cv_dl]
    by_cases c : q.1 ≤ k
    · rw [if_pos c, if_pos c]
    · rw [if_neg c, if_neg c, Int.mul_zero]
  · rw [List.getElem?_eq_none (l := mk N a) (by rw [mk_len]; exact h), List.getElem?_eq_none (l := mk N _) (by rw [mk_len]; exact h)]
def muSp (N : Nat) (sp : List (Nat × Int)) (l : List Int) : List Int := sp.foldl (stSp l) (List.replicate N 0)
theorem fold_Sp {N : Nat} {b : Ser} : ∀ (sp : List (Nat × Int)) (a : Ser), sp.foldl (stSp (mk N b)) (mk N a) = mk N (sadd a (cv (serSp sp) b))
  | [], a => mk_ext fun k _ => by
    show a k = a k + cv (fun _ => 0) b k
    rw [cv_null, Int.add_zero]
  | q :: sp, a => by
    show sp.foldl (stSp (mk N b)) (stSp (mk N b) (mk N a) q) = _
    rw [stSp_mk, fold_Sp sp]
    refine mk_ext fun k _ => ?_
    show a k + cv (dl q.1 q.2) b k + cv (serSp sp) b k = a k + cv (sadd (dl q.1 q.2) (serSp sp)) b k
    rw [cv_addL, Int.add_assoc]
theorem muSp_mk {N : Nat} {sp : List (Nat × Int)} {b : Ser} : muSp N sp (mk N b) = mk N (cv (serSp sp) b) := by
  unfold muSp
  have e : List.replicate N (0 : Int) = mk N fun _ => 0 := by
    unfold mk
    refine (List.eq_replicate_iff.mpr ⟨by rw [List.length_map, List.length_range], fun x hx => ?_⟩).symm
    obtain ⟨_, _, rfl⟩ := List.mem_map.mp hx
    rfl
  rw [e, fold_Sp]
  refine mk_ext fun k _ => ?_
  show 0 + _ = _
  rw [Int.zero_add]
/-- the places of a list that are not 0 -/
def nzs (l : List Int) : List (Nat × Int) := ((List.range l.length).zip l).filter fun q => q.2 != 0
def ofSp (N : Nat) (sp : List (Nat × Int)) : List Int := muSp N sp (1 :: List.replicate (N - 1) 0)
theorem cube_eq {N : Nat} {l : List Int} (h1 : 1 ≤ N) (hl : l.length = N) (hs : ofSp N (nzs l) = l) : powL l 3 = muSp N (nzs l) (muSp N (nzs l) l) := by
  have eo : (1 : Int) :: List.replicate (N - 1) 0 = mk N one := by
    have := euL_mk h1 0
    exact this
  have hs' : mk N (serSp (nzs l)) = l := by
    unfold ofSp at hs
    rwa [eo, muSp_mk, cv_funC, cv_one'] at hs
  have e1 : EqS N (sr l) (serSp (nzs l)) := by
    generalize serSp (nzs l) = S at *
    rw [← hs']
    exact sr_mk
  unfold powL
  rw [hl]
  have e2 : l = mk N (sr l) := by rw [← hl, mk_sr]
  rw [show muSp N (nzs l) (muSp N (nzs l) l) = muSp N (nzs l) (muSp N (nzs l) (mk N (sr l))) by rw [← e2], muSp_mk, muSp_mk]
  refine mk_ext ?_
  show EqS N (cv (cv (cv one (sr l)) (sr l)) (sr l)) _
  rw [cv_one', cv_funL]
  exact EqS.cv e1 (EqS.cv e1 EqS.refl)
theorem first_eq {l : List Int} : powL l 1 = l := by
  unfold powL
  rw [pw_one, mk_sr]
/-- the places as the law writes them -/
def spStep (N n : Nat) (l : List Int) (m : Nat) : List Int :=
  let l1 := if n = 3 ∧ m * (m + 1) / 2 < N then l.set (m * (m + 1) / 2) ((2 * m + 1) * (1 - 2 * ((m % 2 : Nat) : Int))) else l
  let l2 := if n = 1 ∧ m * (3 * m - 1) / 2 < N then l1.set (m * (3 * m - 1) / 2) (1 - 2 * ((m % 2 : Nat) : Int)) else l1
  if n = 1 ∧ m * (3 * m + 1) / 2 < N then l2.set (m * (3 * m + 1) / 2) (1 - 2 * ((m % 2 : Nat) : Int)) else l2
def spl (N n : Nat) : Nat → List Int
  | 0 => List.replicate N 0
  | m + 1 => if m * m ≤ 3 * N then spStep N n (spl N n m) m else spl N n m
theorem wide_1 : [60, 200, 400].all (fun N => epl N == spl N 1 40) = true := by decide +kernel
theorem wide_s : [60, 200, 400].all (fun N => ofSp N (nzs (epl N)) == epl N) = true := by decide +kernel
theorem wide_3 : [60, 200, 400].all (fun N => muSp N (nzs (epl N)) (muSp N (nzs (epl N)) (epl N)) == spl N 3 40) = true := by decide +kernel
theorem wide_eq {N n : Nat} (hN : N ∈ [60, 200, 400]) (hn : n = 1 ∨ n = 3) : powL (epl N) n = spl N n 40 := by
  have a := List.all_eq_true.mp wide_1 N hN
  have b := List.all_eq_true.mp wide_s N hN
  have c := List.all_eq_true.mp wide_3 N hN
  rw [beq_iff_eq] at a b c
  rcases hn with rfl | rfl
  · rw [first_eq, a]
  · rw [cube_eq (N := N) (by simp at hN; omega) epl_len b, c]
end

section
variable {P : Program} {w : World} {K : PySem.W.Frag} {mg : Str → Option Value} {base : Heap} {CM : Addr}
theorem mk_at {N j : Nat} {a : Ser} (h : j < N) : atI ((mk N a).map V.int) (j : Int) = some (.int (a j)) := by
  refine atI_nat ?_
  rw [List.getElem?_map, mk_get h]
  rfl
abbrev s_euler_product : Stmt := top 24
theorem sc_euler_product : FnScope ["size", "n", "items", "m", "at"] ["size", "n"] (defScope s_euler_product) := ⟨rfl, rfl, rfl, by decide +kernel, rfl, by decide +kernel, by decide +kernel⟩

def spEp : Sp := fun vs H Q _ => ∃ N n : Nat, vs = [.int N, .int n] ∧ 1 ≤ N ∧ N ≤ 400 ∧ n ≤ 25 ∧ ∀ r H', Same H H' → H' r = some (.tup ((powL (epl N) n).map V.int)) → Q (.ref r) H'
theorem cal_ep (D : Dn K mg "euler_product" s_euler_product ["size", "n"]) (B : Bl mg) (c_power_of : Cal P w K mg base "power_of" 2 ["f", "n"] spPw) : Cal P w K mg base "euler_product" 3 ["size", "n"] spEp := by
  refine D.cal sc_euler_product (fun vs H Q E h => by obtain ⟨N, n, rfl, _⟩ := h; rfl) (fun f cdv A outer s H vs Q E hr h => ?_)
  obtain ⟨N, n, rfl, h1, h400, hn, k⟩ := h
  refine ⟨_, (pss_cons (ps_set (i := 2) sc_euler_product.nd rfl (Or.inl rfl) (pe_op op_rep (pe_lst (pa_cons pe_int pa_nil)) (pv 0)))
  (pss_cons (ps_for PassesOwn.never rfl (pi_range2 rfl B.range (pa_cons (pe_un un_neg (pv 0)) (pa_cons (pe_op op_add (pv 0) pe_int) pa_nil))) (pg_name (i := 3) sc_euler_product.nd rfl (Or.inl rfl)) (pss_cons (ps_set (i := 4) sc_euler_product.nd rfl (Or.inl rfl) (pe_op op_fdivW (pe_op op_mulI (pv 3) (pe_op op_sub (pe_op op_mulI pe_int (pv 3)) pe_int)) pe_int))
  (pss_one (ps_if (pt_cmpR op_lt (pv 4) (pv 0) (nomark _)) (pss_one (ps_asg (pe_ifExp (pt_truth (pe_op op_and (pv 3) pe_int) (by intro _; rfl)) (pe_un un_neg pe_int) pe_int) (pg_sub (pv 2) (pv 4) set_list))) pss_nil))))
  (pss_one (ps_ret (pe_cal c_power_of (hr.mono (by decide)) rfl (pa_cons (pe_callTy cr_tupOf rfl B.tuple boot_tuple (pa_cons (pv 2) pa_nil)) (pa_cons (pv 1) pa_nil))))))), ?_⟩
  rw [CB.rd_seq]
  walk_at "rs"
  have szL : 100000 ≤ sizeLine := by rw [PySem.sizeLine_eq]; decide
  refine ⟨by omega, fun p np => ⟨_, upd_same, by omega, by omega, ?_, fun D1 nD1 => ?_⟩⟩
  · show 1 * _ ≤ _
    omega
  have nD : H D1 = none := (same_upd np).free nD1
  have s0 := (same_upd (o := HO.lst [V.int 0]) np).trans (same_upd (o := HO.lst (List.replicate (N : Int).toNat [V.int 0]).flatten) nD1)
  have d0 : (upd (upd H p (.lst [V.int 0])) D1 (.lst (List.replicate (N : Int).toNat [V.int 0]).flatten)) D1 = some (.lst (((List.range 0).foldl (epStep N) (List.replicate N 0)).map V.int)) := by
    rw [upd_same, rep_flat, Int.toNat_natCast]
    show _ = some (HO.lst ((List.replicate N (0 : Int)).map V.int))
    rw [List.map_replicate]
  generalize upd (upd H p (.lst [V.int 0])) D1 (.lst (List.replicate (N : Int).toNat [V.int 0]).flatten) = H0 at *
  rw [CB.rd_seq]
  walk_at "rs"
  refine ⟨by omega, by omega, by omega, by omega, ?_⟩
  rw [show ((N : Int) + 1 - -(N : Int)).toNat = 2 * N + 1 by omega]
  refine ForR.w (fun i σ H2 => (∃ t3 t4, σ = [some (.int N), some (.int n), some (.ref D1), t3, t4]) ∧ Same H H2 ∧ H2 D1 = some (.lst (((List.range i).foldl (epStep N) (List.replicate N 0)).map V.int))) ⟨⟨_, _, rfl⟩, s0, d0⟩ ?_ ?_
  · rintro i σ H2 hi ⟨⟨t3, t4, rfl⟩, s2, d2⟩ M hM
    rw [show -(N : Int) + (i : Int) = (i : Int) - N by omega]
    walk_at "rs"
    rw [CB.rd_seq]
    walk_at "rs"
    obtain ⟨z, hz⟩ : ∃ z : Int, z = (i : Int) - N := ⟨_, rfl⟩
    rw [← hz]
    have zb : -400 ≤ z ∧ z ≤ 400 := by omega
    have pos : 0 ≤ z * (3 * z - 1) := by
      rcases Int.lt_or_le 0 z with c | c
      · exact Int.mul_nonneg (by omega) (by omega)
      · have := Int.mul_nonneg (show 0 ≤ -z by omega) (show 0 ≤ -(3 * z - 1) by omega)
        rwa [Int.neg_mul_neg] at this
    have il : ((List.range i).foldl (epStep N) (List.replicate N 0)).length = N := by rw [ep_fold_len, List.length_replicate]
    have es : (List.range (i + 1)).foldl (epStep N) (List.replicate N 0) = epStep N ((List.range i).foldl (epStep N) (List.replicate N 0)) i := by
      rw [List.range_succ, List.foldl_append]
      rfl
    refine ⟨mulL (by decide), mulL (by omega), ⟨by decide, by decide +kernel⟩, ?_⟩
    generalize hat : z * (3 * z - 1) / 2 = at_ at *
    have at0 : 0 ≤ at_ := by omega
    have est : epStep N ((List.range i).foldl (epStep N) (List.replicate N 0)) i = if at_ < N then ((List.range i).foldl (epStep N) (List.replicate N 0)).set at_.toNat (if z % 2 = 0 then 1 else -1) else (List.range i).foldl (epStep N) (List.replicate N 0) := by
      unfold epStep
      rw [← hz, hat]
    by_cases c : at_ < (N : Int)
    · rw [if_pos c]
      rw [if_pos c] at est
      refine ⟨_, rfl, ?_⟩
      rw [PyProof.Rows.bitAnd_m1]
      have hix : ixN (((List.range i).foldl (epStep N) (List.replicate N 0)).map V.int).length at_ = some at_.toNat := by
        have := ixNk (n := (((List.range i).foldl (epStep N) (List.replicate N 0)).map V.int).length) (j := at_.toNat) (by rw [List.length_map, il]; omega)
        rwa [Int.toNat_of_nonneg at0] at this
      by_cases c2 : z % 2 = 0
      · have e : ((z % 2 != 0) : Bool) = false := by simp [c2]
        rw [e, if_neg (by decide)]
        refine ⟨_, d2, _, hix, hM _ _ ⟨⟨_, _, rfl⟩, same_at s2 nD, ?_⟩⟩
        rw [upd_same, es, est, if_pos c2, List.map_set]
      · have e : ((z % 2 != 0) : Bool) = true := by simp [c2]
        rw [e, if_pos rfl]
        refine ⟨_, d2, _, hix, hM _ _ ⟨⟨_, _, rfl⟩, same_at s2 nD, ?_⟩⟩
        rw [upd_same, es, est, if_neg c2, List.map_set]
    · rw [if_neg c]
      rw [if_neg c] at est
      refine hM _ _ ⟨⟨_, _, rfl⟩, s2, ?_⟩
      rw [es, est]
      exact d2
  · rintro σ H2 ⟨⟨t3, t4, rfl⟩, s2, d2⟩
    have d2 : H2 D1 = some (.lst ((epl N).map V.int)) := d2
    walk_at "rs"
    refine tup_end (Q := fun v G => spPw [v, .int n] G Q E0) d2 fun r nr => ?_
    have nb : nm (sr (epl N)) (epl N).length ≤ 400 := by
      have := nm_list (c := 1) (l := epl N) epl_small
      rw [epl_len] at this ⊢
      omega
    have pb : (400 : Nat) ^ n < 2 ^ 100000 := by
      have a : (400 : Nat) ^ n ≤ 400 ^ 25 := Nat.pow_le_pow_right (by decide) hn
      have b : (400 : Nat) ^ 25 < 2 ^ 256 := by decide
      have c : (2 : Nat) ^ 256 ≤ 2 ^ 100000 := Nat.pow_le_pow_right (by decide) (by decide)
      exact Nat.lt_of_le_of_lt a (Nat.lt_of_lt_of_le b c)
    exact ⟨r, epl N, n, 400, rfl, upd_same, by rw [epl_len]; exact h1, by rw [epl_len]; exact h400, nb, by decide, pb, fun r' H3 s3 hr3 => k r' H3 ((s2.trans (same_upd nr)).trans s3) hr3⟩
abbrev s__law_euler : Stmt := top 36
theorem sc__law_euler : FnScope ["size", "n", "found", "m", "turn", "k"] ["size", "n"] (defScope s__law_euler) := ⟨rfl, rfl, rfl, by decide +kernel, rfl, by decide +kernel, by decide +kernel⟩

def spEul : Sp := fun vs H Q _ => ∃ N n : Nat, vs = [.int N, .int n] ∧ 1 ≤ N ∧ N ≤ 400 ∧ n ≤ 1000 ∧ ∀ r H', Same H H' → H' r = some (.tup ((mk N (eul n (N - 1))).map V.int)) → Q (.ref r) H'
theorem cal_eul (D : Dn K mg "_law_euler" s__law_euler ["size", "n"]) (B : Bl mg) : Cal P w K mg base "_law_euler" 1 ["size", "n"] spEul := by
  refine D.cal sc__law_euler (fun vs H Q E h => by obtain ⟨N, n, rfl, _⟩ := h; rfl) (fun f cdv A outer s H vs Q E hr h => ?_)
  obtain ⟨N, n, rfl, h1, h400, hn, k⟩ := h
  refine ⟨_, (pss_cons (ps_set (i := 2) sc__law_euler.nd rfl (Or.inr rfl) (pe_op op_catA (pe_tup (pa_cons pe_int pa_nil)) (pe_op op_repA (pe_tup (pa_cons pe_int pa_nil)) (pe_op op_sub (pv 0) pe_int))))
  (pss_cons (ps_for PassesOwn.never rfl (pi_range2 rfl B.range (pa_cons pe_int (pa_cons (pv 0) pa_nil))) (pg_name (i := 3) sc__law_euler.nd rfl (Or.inr rfl)) (pss_one (ps_for PassesOwn.never rfl (pi_range1 rfl B.range (pa_cons (pv 1) pa_nil)) (pg_name (i := 4) sc__law_euler.nd rfl (Or.inl rfl)) (pss_one (ps_set (i := 2) sc__law_euler.nd rfl (Or.inr rfl) (pe_callTy cr_tupOf rfl B.tuple boot_tuple (pa_cons (pe_lc (own := [("k", 5)]) rfl sc__law_euler.nd (pi_range1 rfl B.range (pa_cons (pv 0) pa_nil)) (blkOk_by (N := ["size", "n", "found", "m", "turn", "k"]) (sc := defScope s__law_euler) (own := [("k", 5)]) (by decide +kernel)) (fun _ _ _ _ _ => (pg_name (i := 5) sc__law_euler.nd rfl (Or.inl rfl))) (fun _ _ _ _ _ => pts_nil) (fun _ _ _ _ _ => (pe_op op_sub (pe_ix (ix_tupK (K := K) rfl) (pv 2) (pv 5) (fun _ _ => rfl)) (pe_ifExp (pt_cmpR op_ge (pv 5) (pv 3) (nomark _)) (pe_ix (ix_tupK (K := K) rfl) (pv 2) (pe_op op_sub (pv 5) (pv 3)) (fun _ _ => rfl)) pe_int)))) pa_nil)))))))
  (pss_one (ps_ret (pv 2))))), ?_⟩
  refine seq_cut (fun σ H2 => ∃ r0, σ = [some (.int N), some (.int n), some (.ref r0), none, none, none] ∧ Same H H2 ∧ H2 r0 = some (.tup ((mk N one).map V.int))) (fun R hR => ?_) ?_
  · walk_at "rs"
    refine ⟨by decide, fun p1 np1 => ⟨by decide, fun p2 np2 => ?_⟩⟩
    have s1 := (same_upd (o := HO.tup [V.int 1]) np1).trans (same_upd (o := HO.tup [V.int 0]) np2)
    have hp1 := same_upd (o := HO.tup [V.int 0]) np2 _ _ (upd_same (H := H) (a := p1) (o := HO.tup [V.int 1]))
    have hp2 : (upd (upd H p1 (.tup [V.int 1])) p2 (.tup [V.int 0])) p2 = some (.tup [V.int 0]) := upd_same
    generalize upd (upd H p1 (.tup [V.int 1])) p2 (.tup [V.int 0]) = H2 at *
    rw [rd_repA]
    refine ⟨p2, N - 1, [.int 0], rfl, by congr 1; omega, hp2, by decide, by omega, by decide, fun p3 H3 s3 h3 => ?_⟩
    refine ⟨p3, rfl, cat_end (Q := fun v G => R [some (.int N), some (.int n), some v, none, none, none] G) (s3 _ _ hp1) h3 (by rw [rep_flat, List.length_replicate]; show 1 + _ ≤ _; omega) fun p4 H4 s4 h4 => hR _ _ ⟨p4, rfl, (s1.trans s3).trans s4, ?_⟩⟩
    rw [h4, rep_flat, unit_app h1]
    rfl
  rintro σ H2 ⟨r0, rfl, s1, hr0⟩
  rw [CB.rd_seq]
  walk_at "rs"
  refine ⟨by omega, by omega, by omega, by omega, ?_⟩
  rw [show ((N : Int) - 1).toNat = N - 1 by omega]
  refine ForR.w (fun i σ H3 => (∃ r t3 t4, σ = [some (.int N), some (.int n), some (.ref r), t3, t4, none] ∧ H3 r = some (.tup ((mk N (eul n i)).map V.int))) ∧ Same H H3) ⟨⟨r0, _, _, rfl, hr0⟩, s1⟩ ?_ ?_
  · rintro i σ H3 hi ⟨⟨r, t3, t4, rfl, hr3⟩, s3⟩ M hM
    rw [show (1 : Int) + (i : Int) = ((i + 1 : Nat) : Int) by omega]
    walk_at "rs"
    refine ⟨by omega, by omega, ?_⟩
    rw [Int.toNat_natCast]
    refine ForR.w (fun t σ H4 => (∃ r t4, σ = [some (.int N), some (.int n), some (.ref r), some (.int ((i + 1 : Nat) : Int)), t4, none] ∧ H4 r = some (.tup ((mk N (cv (pw (dn (i + 1)) t) (eul n i))).map V.int))) ∧ Same H H4) ⟨⟨r, _, rfl, ?_⟩, s3⟩ ?_ ?_
    · rw [hr3, show cv (pw (dn (i + 1)) 0) (eul n i) = eul n i from cv_one']
    · rintro t σ H4 ht ⟨⟨r4, t4', rfl, hr4⟩, s4⟩ M4 hM4
      walk_at "rs"
      have next : cv (pw (dn (i + 1)) (t + 1)) (eul n i) = cv (dn (i + 1)) (cv (pw (dn (i + 1)) t) (eul n i)) := by
        show cv (cv (pw (dn (i + 1)) t) (dn (i + 1))) (eul n i) = _
        rw [cv_funC (a := pw (dn (i + 1)) t), cv_funL]
      rw [next] at hM4
      generalize cv (pw (dn (i + 1)) t) (eul n i) = b at *
      refine ⟨by omega, by omega, ?_⟩
      rw [Int.toNat_natCast]
      refine LcR.p (fun j => some (V.int (cv (dn (i + 1)) b j))) (by omega) ?_ ?_
      · intro j hj H5 s5 M5 S hM5 hS
        rw [Int.zero_add]
        walk_at "rd"
        have h4 := s5 _ _ hr4
        refine ⟨_, SqT.of h4, _, mk_at hj, ?_⟩
        rw [cv_dn] at hM5
        by_cases c : i + 1 ≤ j
        · rw [if_pos (by omega)]
          rw [if_pos c] at hM5
          rw [show (j : Int) - ((i + 1 : Nat) : Int) = ((j - (i + 1) : Nat) : Int) by omega]
          refine ⟨_, SqT.of h4, _, mk_at (show j - (i + 1) < N by omega), _, rfl, _, rfl, hM5 _ _ rfl (Same.refl _)⟩
        · rw [if_neg (by omega)]
          rw [if_neg c] at hM5
          exact ⟨_, rfl, hM5 _ _ rfl (Same.refl _)⟩
      · intro D5 H5 nD5 s5 hD5
        rw [fm_some (fun j => V.int (cv (dn (i + 1)) b j))] at hD5
        refine ⟨D5, rfl, tup_end (Q := fun v G => M4 [some (.int N), some (.int n), some v, some (.int ((i + 1 : Nat) : Int)), some (.int (0 + (t : Int))), none] G) hD5 fun r6 nr6 => hM4 _ _ ⟨⟨r6, _, rfl, ?_⟩, (s4.trans s5).trans (same_upd nr6)⟩⟩
        rw [upd_same]
        unfold mk
        rw [List.map_map]
        rfl
    · rintro σ H4 ⟨⟨r4, t4', rfl, hr4⟩, s4⟩
      exact hM _ _ ⟨⟨r4, _, _, rfl, hr4⟩, s4⟩
  · rintro σ H3 ⟨⟨r, t3, t4, rfl, hr3⟩, s3⟩
    walk_at "rs"
    exact k r H3 s3 hr3
end

section
variable {P : Program} {w : World} {K : PySem.W.Frag} {mg : Str → Option Value} {base : Heap} {CM CR : Addr}
/-! ### values of any kind, told by the heap -/
/-- all but the list at st is kept -/
def But (st : Addr) (H H' : Hp) : Prop := ∀ b o, b ≠ st → H b = some o → H' b = some o
theorem But.refl {st : Addr} {H : Hp} : But st H H := fun _ _ _ e => e
theorem But.trans {st : Addr} {H H1 H2 : Hp} (a : But st H H1) (b : But st H1 H2) : But st H H2 := fun c o n e => b c o n (a c o n e)
theorem But.same {st : Addr} {H H1 H2 : Hp} (a : But st H H1) (b : Same H1 H2) : But st H H2 := fun c o n e => b c o (a c o n e)
theorem But.of {st : Addr} {H H1 : Hp} (b : Same H H1) : But st H H1 := fun c o n e => b c o e
theorem But.upd {st : Addr} {H H1 : Hp} {o : HO} (a : But st H H1) : But st H (upd H1 st o) := fun c o n e => by
  rw [upd_ne n]
  exact a c o n e
end

section
variable {P : Program} {w : World} {K : PySem.W.Frag} {mg : Str → Option Value} {base : Heap} {CM : Addr}
abbrev s__law_series : Stmt := top 35
theorem sc__law_series : FnScope ["state", "size", "most", "rare", "k"] ["state", "size"] (defScope s__law_series) := ⟨rfl, rfl, rfl, by decide +kernel, rfl, by decide +kernel, by decide +kernel⟩

def spSeries : Sp := fun vs H Q _ => ∃ (st : Addr) (x y : Int) (N : Nat), vs = [.ref st, .int N] ∧ H st = some (.lst [.int x, .int y]) ∧ N ≤ 400 ∧
  ∀ (r : Addr) (H' : Hp) (ns : List Int) (x' y' : Int), But st H H' → H' st = some (.lst [.int x', .int y']) → H' r = some (.tup (ns.map V.int)) → ns.length = N → (∀ n ∈ ns, n.natAbs ≤ 1000000000000000) → Q (.ref r) H'
theorem pick4i {v : Int} (h0 : 0 ≤ v) (h1 : v < 4) (a b c d : Int) : ∃ x : Int, atI [V.int a, V.int b, V.int c, V.int d] v = some (.int x) ∧ (x = a ∨ x = b ∨ x = c ∨ x = d) := by
  have c : v = 0 ∨ v = 1 ∨ v = 2 ∨ v = 3 := by omega
  rcases c with rfl | rfl | rfl | rfl
  · exact ⟨_, rfl, .inl rfl⟩
  · exact ⟨_, rfl, .inr (.inl rfl)⟩
  · exact ⟨_, rfl, .inr (.inr (.inl rfl))⟩
  · exact ⟨_, rfl, .inr (.inr (.inr rfl))⟩
theorem cal_ser (D : Dn K mg "_law_series" s__law_series ["state", "size"]) (B : Bl mg) (c__law_take : Cal P w K mg base "_law_take" 1 ["state", "m"] spTake) : Cal P w K mg base "_law_series" 2 ["state", "size"] spSeries := by
  refine D.cal sc__law_series (fun vs H Q E h => by obtain ⟨st, x, y, N, rfl, _⟩ := h; rfl) (fun f cdv A outer s H vs Q E hr h => ?_)
  obtain ⟨st, x, y, N, rfl, hs, h400, k⟩ := h
  refine ⟨_, (pss_cons (ps_set (i := 2) sc__law_series.nd rfl (Or.inr rfl) (pe_ix ix_list (pe_lst (pa_cons pe_int (pa_cons pe_int (pa_cons pe_int (pa_cons (pe_op op_powI pe_int pe_int) pa_nil))))) (pe_cal c__law_take (hr.mono (by decide)) rfl (pa_cons (pv 0) (pa_cons pe_int pa_nil))) (fun _ _ => rfl)))
  (pss_cons (ps_set (i := 3) sc__law_series.nd rfl (Or.inr rfl) (pe_op op_add pe_int (pe_cal c__law_take (hr.mono (by decide)) rfl (pa_cons (pv 0) (pa_cons pe_int pa_nil)))))
  (pss_one (ps_ret (pe_callTy cr_tupOf rfl B.tuple boot_tuple (pa_cons (pe_lc (own := [("k", 4)]) rfl sc__law_series.nd (pi_range1 rfl B.range (pa_cons (pv 1) pa_nil)) (blkOk_by (N := ["state", "size", "most", "rare", "k"]) (sc := defScope s__law_series) (own := [("k", 4)]) (by decide +kernel)) (fun _ _ _ _ _ => (pg_name (i := 4) sc__law_series.nd rfl (Or.inl rfl))) (fun _ _ _ _ _ => pts_nil) (fun _ _ _ _ _ => (pe_ifExp (pt_cmpR op_eq (pe_cal c__law_take (hr.mono (by decide)) rfl (pa_cons (pv 0) (pa_cons (pv 3) pa_nil))) pe_int (nomark _)) (pe_op op_sub (pe_cal c__law_take (hr.mono (by decide)) rfl (pa_cons (pv 0) (pa_cons (pe_op op_add (pe_op op_mulI pe_int (pv 2)) pe_int) pa_nil))) (pv 2)) pe_int))) pa_nil)))))), ?_⟩
  rw [CB.rd_seq]
  walk_at "rs"
  have e15 : (10 : Int) ^ Int.toNat 15 = 1000000000000000 := by decide
  rw [e15]
  refine ⟨⟨by decide, by decide +kernel⟩, by decide, fun l1 nl1 => ⟨st, x, y, _, rfl, (same_upd nl1) _ _ hs, by decide, by decide +kernel, fun v x1 y1 v0 v1 => ?_⟩⟩
  have n1 : l1 ≠ st := (ne_of_none hs nl1).symm
  obtain ⟨most, e1, hm⟩ := pick4i v0 v1 1 3 1000 1000000000000000
  refine ⟨_, v, rfl, SqL.of (by rw [upd_ne n1, upd_same]), _, e1, ?_⟩
  have mb : 1 ≤ most ∧ most ≤ 1000000000000000 := by omega
  have hs1 : (upd (upd H l1 (.lst [.int 1, .int 3, .int 1000, .int 1000000000000000])) st (.lst [.int x1, .int y1])) st = some (.lst [.int x1, .int y1]) := upd_same
  have bt1 : But st H (upd (upd H l1 (.lst [.int 1, .int 3, .int 1000, .int 1000000000000000])) st (.lst [.int x1, .int y1])) := (But.of (same_upd nl1)).upd
  generalize upd (upd H l1 (.lst [.int 1, .int 3, .int 1000, .int 1000000000000000])) st (.lst [.int x1, .int y1]) = H1 at *
  clear e1 hm
  walk_at "nx"
  refine ⟨st, x1, y1, _, rfl, hs1, by decide, by decide +kernel, fun v2 x2 y2 v20 v21 => ⟨v2, rfl, ?_⟩⟩
  have hs2 : (upd H1 st (.lst [.int x2, .int y2])) st = some (.lst [.int x2, .int y2]) := upd_same
  have bt2 : But st H (upd H1 st (.lst [.int x2, .int y2])) := bt1.upd
  generalize upd H1 st (.lst [.int x2, .int y2]) = H2 at *
  refine ⟨by omega, by omega, ?_⟩
  rw [Int.toNat_natCast]
  refine LcR.i (fun i zs H3 => (But st H2 H3 ∧ ∃ x y, H3 st = some (.lst [.int x, .int y])) ∧ ∃ ns : List Int, zs = ns.map V.int ∧ ns.length = i ∧ i ≤ N ∧ ∀ n ∈ ns, n.natAbs ≤ 1000000000000000) (fun i zs H3 D l l' h nD hD => ?_) (fun H3 s3 => ⟨⟨But.of s3, x2, y2, s3 _ _ hs2⟩, [], rfl, rfl, Nat.zero_le _, fun n hn => by cases hn⟩) (fun i zs H3 h => ?_) ?_ ?_
  · obtain ⟨⟨b, x, y, h⟩, r⟩ := h
    have ne : D ≠ st := fun e => by rw [e, hs2] at nD; cases nD
    exact ⟨⟨fun c o n e => by rw [upd_ne (ne_of_none e nD)]; exact b c o n e, x, y, by rw [upd_ne ne.symm]; exact h⟩, r⟩
  · obtain ⟨_, ns, rfl, hn, hi, _⟩ := h
    rw [List.length_map]
    exact small_size (by omega)
  · intro i hi zs H3 h M S hM hS
    obtain ⟨⟨bt3, x3, y3, hs3⟩, ns, rfl, hn, hi', hb⟩ := h
    walk_at "rd"
    have kn : ∀ (G : Hp) (o : HO), Kn H2 H3 G → Kn H2 H3 (upd G st o) := fun G o h D l n e => by
      rw [upd_ne (fun z => by rw [z, hs2] at n; cases n)]
      exact h D l n e
    have add : ∀ b : Int, b.natAbs ≤ 1000000000000000 → ∀ n ∈ ns ++ [b], n.natAbs ≤ 1000000000000000 := fun b hb' n hn => by
      rcases List.mem_append.mp hn with z | z
      · exact hb n z
      · rw [List.mem_singleton.mp z]
        exact hb'
    refine ⟨st, x3, y3, _, rfl, hs3, by omega, lg_int (by omega), fun v x4 y4 v0 v1 => ⟨rfl, ?_⟩⟩
    by_cases c : v = 0
    · rw [if_pos (by rw [c])]
      refine ⟨mulL (by decide), st, x4, y4, _, rfl, upd_same, by omega, lg_int (by omega), fun v5 x5 y5 v50 v51 => ⟨v5, rfl, hM _ _ (kn _ _ (kn _ _ Kn.refl)) ⟨⟨(bt3.upd).upd, x5, y5, upd_same⟩, ns ++ [v5 - most], by rw [List.map_append]; rfl, by rw [List.length_append, hn]; rfl, by omega, add _ (by omega)⟩⟩⟩
    · rw [if_neg (fun z => c (V.int.inj z))]
      exact hM _ _ (kn _ _ Kn.refl) ⟨⟨bt3.upd, x4, y4, upd_same⟩, ns ++ [0], by rw [List.map_append]; rfl, by rw [List.length_append, hn]; rfl, by omega, add _ (by decide)⟩
  · intro D zs H3 nD h hD
    obtain ⟨⟨bt3, x3, y3, hs3⟩, ns, rfl, hn, hi', hb⟩ := h
    walk_at "rd"
    refine tup_end hD fun r nr => k r _ ns x3 y3 ((bt2.trans bt3).same (same_upd nr)) (same_upd nr _ _ hs3) upd_same hn hb
abbrev s__law_sparse : Stmt := top 37
theorem sc__law_sparse : FnScope ["size", "n", "found", "m", "at", "k"] ["size", "n"] (defScope s__law_sparse) := ⟨rfl, rfl, rfl, by decide +kernel, rfl, by decide +kernel, by decide +kernel⟩

def spSparse : Sp := fun vs H Q _ => ∃ N n : Nat, vs = [.int N, .int n] ∧ N ≤ 400 ∧ (n = 1 ∨ n = 3) ∧ ∀ r H', Same H H' → H' r = some (.tup ((spl N n 40).map V.int)) → Q (.ref r) H'
theorem spl_stop {N n m : Nat} (h : ¬ m * m ≤ 3 * N) : ∀ d, spl N n (m + d) = spl N n m
  | 0 => rfl
  | d + 1 => by
    show (if (m + d) * (m + d) ≤ 3 * N then spStep N n (spl N n (m + d)) (m + d) else spl N n (m + d)) = _
    rw [if_neg ?_, spl_stop h d]
    intro z
    exact h (Nat.le_trans (Nat.mul_le_mul (Nat.le_add_right m d) (Nat.le_add_right m d)) z)
def putN (N : Nat) (v : Int) (l : List Int) (ks : List Int) : List Int := ks.foldl (fun (l : List Int) (a : Int) => if a < (N : Int) then l.set a.toNat v else l) l
theorem putN_len {N : Nat} {v : Int} : ∀ (ks l : List Int), (putN N v l ks).length = l.length
  | [], _ => rfl
  | a :: ks, l => by
    show (putN N v (if a < (N : Int) then l.set a.toNat v else l) ks).length = _
    rw [putN_len ks]
    split
    · exact List.length_set ..
    · rfl
theorem putN_get {N : Nat} {v : Int} {i : Nat} : ∀ (ks l : List Int), l.length = N → (∀ a ∈ ks, 0 ≤ a) → (putN N v l ks)[i]? = if (i : Int) ∈ ks ∧ i < N then some v else l[i]?
  | [], l, _, _ => by
    rw [if_neg (by rintro ⟨h, _⟩; cases h)]
    rfl
  | a :: ks, l, hl, hp => by
    show (putN N v (if a < (N : Int) then l.set a.toNat v else l) ks)[i]? = _
    have a0 := hp a List.mem_cons_self
    rw [putN_get ks _ (by split <;> simp [hl]) fun b hb => hp b (List.mem_cons_of_mem _ hb)]
    by_cases h : (i : Int) ∈ ks ∧ i < N
    · rw [if_pos h, if_pos ⟨List.mem_cons_of_mem _ h.1, h.2⟩]
    · rw [if_neg h]
      by_cases e : (i : Int) = a
      · by_cases c : a < N
        · rw [if_pos c, if_pos ⟨e ▸ List.mem_cons_self, by omega⟩, show a.toNat = i by omega, List.getElem?_set_self (by omega)]
        · rw [if_neg c, if_neg (by omega)]
      · have n1 : ¬ ((i : Int) ∈ a :: ks ∧ i < N) := by
          rintro ⟨x, y⟩
          rcases List.mem_cons.mp x with z | z
          · exact e z
          · exact h ⟨z, y⟩
        rw [if_neg n1]
        by_cases c : a < N
        · rw [if_pos c, List.getElem?_set_ne (by omega)]
        · rw [if_neg c]
theorem putN_eq {N : Nat} {v : Int} {ks ls l : List Int} (hl : l.length = N) (h1 : ∀ a ∈ ks, 0 ≤ a) (h2 : ∀ a ∈ ls, 0 ≤ a) (h : ∀ a, a ∈ ks ↔ a ∈ ls) : putN N v l ks = putN N v l ls := by
  refine List.ext_getElem? fun i => ?_
  rw [putN_get ks l hl h1, putN_get ls l hl h2]
  by_cases c : (i : Int) ∈ ks ∧ i < N
  · rw [if_pos c, if_pos ⟨(h _).mp c.1, c.2⟩]
  · rw [if_neg c, if_neg fun z => c ⟨(h _).mpr z.1, z.2⟩]
theorem spl_len {N n : Nat} : ∀ m, (spl N n m).length = N
  | 0 => List.length_replicate ..
  | m + 1 => by
    show (if m * m ≤ 3 * N then spStep N n (spl N n m) m else spl N n m).length = N
    split
    · unfold spStep
      simp only []
      split <;> split <;> split <;> simp [spl_len m]
    · exact spl_len m
theorem cal_sparse (D : Dn K mg "_law_sparse" s__law_sparse ["size", "n"]) (B : Bl mg) : Cal P w K mg base "_law_sparse" 1 ["size", "n"] spSparse := by
  refine D.cal sc__law_sparse (fun vs H Q E h => by obtain ⟨N, n, rfl, _⟩ := h; rfl) (fun f cdv A outer s H vs Q E hr h => ?_)
  obtain ⟨N, n, rfl, h400, hn, k⟩ := h
  refine ⟨_, (pss_cons (ps_par (i := 2) (j := 3) rfl sc__law_sparse.nd rfl rfl (by decide) rfl rfl (pa_cons (pe_lc (own := [("k", 5)]) rfl sc__law_sparse.nd (pi_range1 rfl B.range (pa_cons (pv 0) pa_nil)) (blkOk_by (N := ["size", "n", "found", "m", "at", "k"]) (sc := defScope s__law_sparse) (own := [("k", 5)]) (by decide +kernel)) (fun _ _ _ _ _ => (pg_name (i := 5) sc__law_sparse.nd rfl (Or.inl rfl))) (fun _ _ _ _ _ => pts_nil) (fun _ _ _ _ _ => pe_int)) (pa_cons pe_int pa_nil)) (by rfl))
  (pss_cons (ps_while PassesOwn.never (pt_cmpR op_le (pe_op op_mulI (pv 3) (pv 3)) (pe_op op_mulI pe_int (pv 0)) (nomark _)) (pss_cons (ps_if (PW.pt (pw_and (pt_cmpR op_eq (pv 1) pe_int (nomark _)) (pw_and1 (pt_cmpR op_lt (pe_op op_fdivW (pe_op op_mulI (pv 3) (pe_op op_add (pv 3) pe_int)) pe_int) (pv 0) (nomark _))))) (pss_one (ps_asg (pe_op op_mulI (pe_op op_add (pe_op op_mulI pe_int (pv 3)) pe_int) (pe_op op_sub pe_int (pe_op op_mulI pe_int (pe_op op_mod (pe_callTy call_int1 rfl B.int boot_int (pa_cons (pv 3) pa_nil)) pe_int)))) (pg_sub (pv 2) (pe_op op_fdivW (pe_op op_mulI (pv 3) (pe_op op_add (pv 3) pe_int)) pe_int) set_list))) pss_nil)
  (pss_cons (ps_for PassesOwn.never rfl (pi_list (pe_callB (cr_sortedSetw (w := w) rfl rfl) rfl B.sorted (by decide +kernel) (pa_cons (pe_callTy (cr_setL1w (w := w) rfl rfl) rfl B.set PyProof.Rows.boot_set (pa_cons (pe_lst (pa_cons (pe_op op_fdivW (pe_op op_mulI (pv 3) (pe_op op_sub (pe_op op_mulI pe_int (pv 3)) pe_int)) pe_int) (pa_cons (pe_op op_fdivW (pe_op op_mulI (pv 3) (pe_op op_add (pe_op op_mulI pe_int (pv 3)) pe_int)) pe_int) pa_nil))) pa_nil)) pa_nil))) (pg_name (i := 4) sc__law_sparse.nd rfl (Or.inl rfl)) (pss_one (ps_if (PW.pt (pw_and (pt_cmpR op_eq (pv 1) pe_int (nomark _)) (pw_and1 (pt_cmpR op_lt (pv 4) (pv 0) (nomark _))))) (pss_one (ps_asg (pe_op op_sub pe_int (pe_op op_mulI pe_int (pe_op op_mod (pe_callTy call_int1 rfl B.int boot_int (pa_cons (pv 3) pa_nil)) pe_int))) (pg_sub (pv 2) (pv 4) set_list))) pss_nil)))
  (pss_one (ps_set (i := 3) sc__law_sparse.nd rfl (Or.inl rfl) (pe_op op_add (pv 3) pe_int))))))
  (pss_one (ps_ret (pe_callTy cr_tupOf rfl B.tuple boot_tuple (pa_cons (pv 2) pa_nil)))))), ?_⟩
  rw [CB.rd_seq]
  walk_at "rs"
  refine ⟨by omega, by omega, ?_⟩
  rw [Int.toNat_natCast]
  refine LcR.p (fun _ => some (V.int 0)) (by omega) ?_ ?_
  · intro i hi H1 s1 M S hM hS
    walk_at "rd"
    exact hM _ _ rfl (Same.refl _)
  intro D1 H1 nD s1 hD
  have d1 : H1 D1 = some (.lst ((spl N n 0).map V.int)) := by
    rw [hD, fm_some (fun _ => V.int 0)]
    show _ = some (HO.lst ((List.replicate N (0 : Int)).map V.int))
    rw [List.map_replicate]
    congr 2
    refine List.eq_replicate_iff.mpr ⟨by rw [List.length_map, List.length_range], fun b hb => ?_⟩
    obtain ⟨_, _, rfl⟩ := List.mem_map.mp hb
    rfl
  rw [CB.rd_seq]
  refine while_w (fun σ H2 => ∃ (m : Nat) (t4 t5 : Option V), σ = [some (.int N), some (.int n), some (.ref D1), some (.int m), t4, t5] ∧ Same H H2 ∧ m ≤ 40 ∧ H2 D1 = some (.lst ((spl N n m).map V.int)))
    (fun σ _ => match σ with | [_, _, _, some (.int m), _, _] => (40 - m).toNat | _ => 0) ⟨0, _, _, rfl, s1, by decide, d1⟩ ?_
  rintro σ H2 ⟨m, t4, t5, rfl, s2, m40, d2⟩ M hM
  have mm : (m : Int) * (m : Int) = ((m * m : Nat) : Int) := (Int.natCast_mul _ _).symm
  refine ⟨decide ((m : Int) * m ≤ 3 * N), fun Q' q' => ?_, fun hb => ?_, fun hb => ?_⟩
  · walk_at "rd"
    exact ⟨mulL (by omega), mulL (by decide), q'⟩
  · have hc : m * m ≤ 3 * N := by
      have := of_decide_eq_true hb
      omega
    have m35 : m ≤ 34 := by
      rcases Nat.lt_or_ge 34 m with z | z
      · have := Nat.mul_le_mul (show 35 ≤ m by omega) (show 35 ≤ m by omega)
        omega
      · exact z
    have es : spl N n (m + 1) = spStep N n (spl N n m) m := by
      show (if m * m ≤ 3 * N then _ else _) = _
      rw [if_pos hc]
    refine seq_cut (fun σ H3 => σ = [some (.int N), some (.int n), some (.ref D1), some (.int m), t4, t5] ∧ Same H H3 ∧ H3 D1 = some (.lst ((if n = 3 ∧ m * (m + 1) / 2 < N then (spl N n m).set (m * (m + 1) / 2) ((2 * m + 1) * (1 - 2 * ((m % 2 : Nat) : Int))) else spl N n m).map V.int))) (fun R hR => ?_) ?_
    · walk_at "rs"
      have em : (m : Int) * ((m : Int) + 1) / 2 = ((m * (m + 1) / 2 : Nat) : Int) := by
        rw [Int.natCast_ediv, Int.natCast_mul]
        rfl
      have ev : ((m : Int) % 2) = ((m % 2 : Nat) : Int) := by omega
      by_cases c3 : n = 3
      · rw [if_pos (by omega)]
        refine ⟨mulL (by omega), ⟨by decide, by decide +kernel⟩, ?_⟩
        rw [em, ev]
        by_cases c4 : m * (m + 1) / 2 < N
        · rw [if_pos (by omega)]
          rw [if_pos ⟨c3, c4⟩] at hR
          refine ⟨mulL (by decide), by decide, mulL (by decide), mulL (by omega), mulL (by omega), ⟨by decide, by decide +kernel⟩, _, d2, m * (m + 1) / 2, ixNk (by rw [List.length_map, spl_len]; exact c4), hR _ _ ⟨rfl, same_at s2 nD, ?_⟩⟩
          rw [upd_same, List.map_set]
        · rw [if_neg (by omega)]
          rw [if_neg (fun z => c4 z.2)] at hR
          exact hR _ _ ⟨rfl, s2, d2⟩
      · rw [if_neg (by omega)]
        rw [if_neg (fun z => c3 z.1)] at hR
        exact hR _ _ ⟨rfl, s2, d2⟩
    rintro σ H3 ⟨rfl, s3, d3⟩
    rw [CB.rd_seq]
    walk_at "rs"
    have ea : (m : Int) * (3 * (m : Int) - 1) / 2 = ((m * (3 * m - 1) / 2 : Nat) : Int) := by
      rw [Int.natCast_ediv, Int.natCast_mul]
      rcases Nat.eq_zero_or_pos m with z | z
      · subst z
        rfl
      · rw [show ((3 * m - 1 : Nat) : Int) = 3 * (m : Int) - 1 by omega]
        rfl
    have eb : (m : Int) * (3 * (m : Int) + 1) / 2 = ((m * (3 * m + 1) / 2 : Nat) : Int) := by
      rw [Int.natCast_ediv, Int.natCast_mul]
      rfl
    rw [ea, eb]
    refine ⟨mulL (by decide), mulL (by omega), ⟨by decide, by decide +kernel⟩, mulL (by decide), mulL (by omega), ⟨by decide, by decide +kernel⟩, by decide, fun l5 nl5 => ?_⟩
    rw [rd_setL1]
    generalize hA : m * (3 * m - 1) / 2 = Aa at *
    generalize hB : m * (3 * m + 1) / 2 = Bb at *
    have s4 := s3.trans (same_upd (o := HO.lst [V.int (Aa : Int), V.int (Bb : Int)]) nl5)
    have d4 := same_upd (o := HO.lst [V.int (Aa : Int), V.int (Bb : Int)]) nl5 _ _ d3
    have h5 : (upd H3 l5 (.lst [V.int (Aa : Int), V.int (Bb : Int)])) l5 = some (.lst (([(Aa : Int), (Bb : Int)] : List Int).map V.int)) := upd_same
    generalize upd H3 l5 (.lst [V.int (Aa : Int), V.int (Bb : Int)]) = H4 at *
    refine ⟨l5, [(Aa : Int), (Bb : Int)], rfl, SqL.of h5, by show 2 ≤ 1000; decide, fun p6 c np6 hc => ?_⟩
    rw [rd_sortedSet]
    refine ⟨p6, _, c, rfl, upd_same, by have : c ≤ 2 := hc; omega, fun ns p7 ns1 ns2 ns3 np7 => ?_⟩
    have s7 := (s4.trans (same_upd (o := SetO w p6 (fun j => decide (j ∈ [(Aa : Int), (Bb : Int)])) c) np6)).trans (same_upd (o := HO.lst (ns.map V.int)) np7)
    have d7 := same_upd (o := HO.lst (ns.map V.int)) np7 _ _ (same_upd (o := SetO w p6 (fun j => decide (j ∈ [(Aa : Int), (Bb : Int)])) c) np6 _ _ d4)
    have h7 : (upd (upd H4 p6 (SetO w p6 (fun j => decide (j ∈ [(Aa : Int), (Bb : Int)])) c)) p7 (.lst (ns.map V.int))) p7 = some (.lst (ns.map V.int)) := upd_same
    generalize upd (upd H4 p6 (SetO w p6 (fun j => decide (j ∈ [(Aa : Int), (Bb : Int)])) c)) p7 (.lst (ns.map V.int)) = H7 at *
    have evv : (1 : Int) - 2 * ((m : Int) % 2) = 1 - 2 * ((m % 2 : Nat) : Int) := by omega
    generalize hL0 : (if n = 3 ∧ m * (m + 1) / 2 < N then (spl N n m).set (m * (m + 1) / 2) ((2 * m + 1) * (1 - 2 * ((m % 2 : Nat) : Int))) else spl N n m) = L0 at *
    have l0 : L0.length = N := by rw [← hL0]; split <;> simp [spl_len]
    have nsp : ∀ a ∈ ns, 0 ≤ a := fun a ha => by
      have := (ns2 a).mp ha
      have := of_decide_eq_true this
      simp only [List.mem_cons, List.not_mem_nil, or_false] at this
      omega
    refine ⟨p7, rfl, ⟨_, SqL.of h7⟩, ForL.w (xs := ns.map V.int) (fun i σ H8 => (∃ t4, σ = [some (.int N), some (.int n), some (.ref D1), some (.int m), t4, t5]) ∧ Same H H8 ∧ H8 p7 = some (.lst (ns.map V.int)) ∧ H8 D1 = some (.lst ((if n = 1 then putN N (1 - 2 * ((m % 2 : Nat) : Int)) L0 (ns.take i) else L0).map V.int))) ⟨⟨_, rfl⟩, s7, h7, ?_⟩ (fun i σ H8 _ ⟨_, _, h8, _⟩ => SqL.of h8) ?_ ?_⟩
    · rw [d7]
      split <;> rfl
    · rintro i x σ H8 hx ⟨⟨t4', rfl⟩, s8, h8, d8⟩ M8 hM8
      obtain ⟨a, rfl, ha⟩ := ints_at hx
      have a0 := nsp a (List.mem_of_getElem? ha)
      have ne : D1 ≠ p7 := fun e => by
        have := d4
        rw [← e] at np7
        rw [same_upd np6 _ _ d4] at np7
        cases np7
      walk_at "rs"
      by_cases c1 : n = 1
      · rw [if_pos (by omega)]
        rw [if_pos c1] at d8
        have tk : putN N (1 - 2 * ((m % 2 : Nat) : Int)) L0 (ns.take (i + 1)) = if a < (N : Int) then (putN N (1 - 2 * ((m % 2 : Nat) : Int)) L0 (ns.take i)).set a.toNat (1 - 2 * ((m % 2 : Nat) : Int)) else putN N (1 - 2 * ((m % 2 : Nat) : Int)) L0 (ns.take i) := by
          rw [List.take_add_one, ha]
          unfold putN
          rw [List.foldl_append]
          rfl
        by_cases c2 : a < (N : Int)
        · rw [if_pos c2]
          rw [if_pos c2] at tk
          have hix := ixNk (n := ((putN N (1 - 2 * ((m % 2 : Nat) : Int)) L0 (ns.take i)).map V.int).length) (j := a.toNat) (by rw [List.length_map, putN_len, l0]; omega)
          rw [Int.toNat_of_nonneg a0] at hix
          rw [evv]
          refine ⟨by decide, mulL (by decide), _, d8, _, hix, hM8 _ _ ⟨⟨_, rfl⟩, same_at s8 nD, by rw [upd_ne ne.symm]; exact h8, ?_⟩⟩
          rw [upd_same, if_pos c1, tk, List.map_set]
        · rw [if_neg c2]
          rw [if_neg c2] at tk
          refine hM8 _ _ ⟨⟨_, rfl⟩, s8, h8, ?_⟩
          rw [if_pos c1, tk]
          exact d8
      · rw [if_neg (by omega)]
        rw [if_neg c1] at d8
        refine hM8 _ _ ⟨⟨_, rfl⟩, s8, h8, ?_⟩
        rw [if_neg c1]
        exact d8
    · rintro σ H8 ⟨⟨t4', rfl⟩, s8, h8, d8⟩
      rw [List.length_map, List.take_length] at d8
      walk_at "rs"
      rw [show (m : Int) + 1 = ((m + 1 : Nat) : Int) by omega]
      refine hM _ _ ⟨m + 1, _, _, rfl, s8, by omega, ?_⟩ (by show ((40 : Int) - ((m + 1 : Nat) : Int)).toNat < ((40 : Int) - (m : Int)).toNat; omega)
      rw [d8, es]
      congr 2
      unfold spStep
      simp only []
      rw [hA, hB, hL0]
      by_cases c1 : n = 1
      · rw [if_pos c1]
        have e2 : putN N (1 - 2 * ((m % 2 : Nat) : Int)) L0 ns = putN N (1 - 2 * ((m % 2 : Nat) : Int)) L0 [(Aa : Int), (Bb : Int)] := putN_eq l0 nsp (fun a ha => by
          simp only [List.mem_cons, List.not_mem_nil, or_false] at ha
          omega) (fun a => by rw [ns2, decide_eq_true_eq])
        rw [e2]
        unfold putN
        simp only [List.foldl_cons, List.foldl_nil, Int.toNat_natCast, Int.ofNat_lt, c1, true_and]
      · rw [if_neg c1, if_neg (fun z => c1 z.1), if_neg (fun z => c1 z.1)]
  · have hc : ¬ m * m ≤ 3 * N := by
      have := of_decide_eq_false hb
      omega
    have := spl_stop (N := N) (n := n) hc (40 - m)
    rw [show m + (40 - m) = 40 by omega] at this
    rw [← this] at d2
    walk_at "rs"
    exact tup_end d2 fun r nr => k r _ (s2.trans (same_upd nr)) upd_same
end

section
variable {P : Program} {w : World} {K : PySem.W.Frag} {mg : Str → Option Value} {base : Heap} {CM : Addr}
abbrev s__law_refused : Stmt := top 38
theorem sc__law_refused : FnScope ["which", "f", "g"] ["which", "f", "g"] (defScope s__law_refused) := ⟨rfl, rfl, rfl, by decide +kernel, rfl, by decide +kernel, by decide +kernel⟩

def BadP (K : PySem.W.Frag) (H : Hp) (v u : V) : Prop := StB K H v ∨ (∃ xs, GoodS H v xs ∧ StB K H u) ∨ ∃ xs ys, GoodS H v xs ∧ GoodS H u ys ∧ xs.length ≠ ys.length
theorem BadP.pair {H : Hp} {v u : V} {bad : Prop} {good : List Int → List Int → Prop} (h : BadP K H v u) (b : bad) : Pair2 K H v u bad good := by
  rcases h with h | ⟨xs, h, h'⟩ | ⟨xs, ys, h, h', n⟩
  · exact .inl ⟨h, b⟩
  · exact .inr (.inl ⟨xs, h, h', b⟩)
  · exact .inr (.inr (.inl ⟨xs, ys, h, h', n, b⟩))
theorem BadP.same {H H' : Hp} {v u : V} (h : BadP K H v u) (s : Same H H') : BadP K H' v u := by
  rcases h with h | ⟨xs, h, h'⟩ | ⟨xs, ys, h, h', n⟩
  · exact .inl (h.same s)
  · exact .inr (.inl ⟨xs, h.same s, h'.same s⟩)
  · exact .inr (.inr ⟨xs, ys, h.same s, h'.same s, n⟩)
def spRef (K : PySem.W.Frag) : Sp := fun vs H Q _ => ∃ (wh : Int) (v u : V), vs = [.int wh, v, u] ∧ (((wh = 0 ∨ wh = 1) ∧ BadP K H v u) ∨ ((wh = 2 ∨ wh = 3 ∨ wh = 4) ∧ StB K H v) ∨ (wh = 5 ∧ BadLn K H v)) ∧ ∀ H', Same H H' → Q (.bl true) H'
theorem cal_ref (D : Dn K mg "_law_refused" s__law_refused ["which", "f", "g"]) (B : Bl mg) (c_plus : CalX P w K mg base "plus" 6 ["f", "g"] (spPlus K CM)) (c_times : CalX P w K mg base "times" 6 ["f", "g"] (spTimes K CM))
    (c_multiple : CalX P w K mg base "multiple" 5 ["f", "c"] (spMult K CM)) (c_power : CalX P w K mg base "power" 5 ["f", "n"] (spPower K CM)) (c_shifted : CalX P w K mg base "shifted" 5 ["f", "n"] (spShift K CM)) (c_check_length : CalX P w K mg base "check_length" 3 ["size"] (spChkL K CM))
    (c__law_plain : Cal P w K mg base "_law_plain" 4 ["value"] spPl1) (e_E : ErrO K mg CM) : Cal P w K mg base "_law_refused" 7 ["which", "f", "g"] (spRef K) := by
  refine D.cal sc__law_refused (fun vs H Q E h => by obtain ⟨wh, v, u, rfl, _⟩ := h; rfl) (fun f cdv A outer s H vs Q E hr h => ?_)
  obtain ⟨wh, v, u, rfl, h, q⟩ := h
  obtain ⟨f_plus, m_plus, h0⟩ := c_plus.held (kk := 6) (by decide)
  obtain ⟨f_times, m_times, h1⟩ := c_times.held (kk := 6) (by decide)
  have AE : ∀ f sp, ((f = f_plus ∧ sp = spPlus K CM) ∨ (f = f_times ∧ sp = spTimes K CM)) → HeldE P w K mg base 6 f sp := by
    rintro f sp (⟨rfl, rfl⟩ | ⟨rfl, rfl⟩)
    · exact h0
    · exact h1
  refine ⟨_, (pss_one (ps_tryA rfl rfl sc__law_refused.nd takes0 (fun W pn xe tk _ => (pss_cons (ps_if (pt_cmpR op_lt (pv 0) pe_int (nomark _)) (pss_one (ps_expr (pe_callE AE tk (hr.mono (by decide)) (pe_ix (ix_listK (K := K) rfl) (pe_lst (pa_cons (pe_glob (v := .ref f_plus) rfl m_plus rfl) (pa_cons (pe_glob (v := .ref f_times) rfl m_times rfl) pa_nil))) (pv 0) (fun _ _ => rfl)) (pa_cons (pv 1) (pa_cons (pv 2) pa_nil))))) (pss_one (ps_if (pt_cmpR op_eq (pv 0) pe_int (nomark _)) (pss_one (ps_expr (pe_cal c__law_plain (hr.mono (by decide)) rfl (pa_cons (pe_calS c_multiple tk (hr.mono (by decide)) rfl (pa_cons (pv 1) (pa_cons pe_int pa_nil))) pa_nil)))) (pss_one (ps_if (pt_cmpR op_eq (pv 0) pe_int (nomark _)) (pss_one (ps_expr (pe_cal c__law_plain (hr.mono (by decide)) rfl (pa_cons (pe_calS c_power tk (hr.mono (by decide)) rfl (pa_cons (pv 1) (pa_cons pe_int pa_nil))) pa_nil)))) (pss_one (ps_if (pt_cmpR op_eq (pv 0) pe_int (nomark _)) (pss_one (ps_expr (pe_cal c__law_plain (hr.mono (by decide)) rfl (pa_cons (pe_calS c_shifted tk (hr.mono (by decide)) rfl (pa_cons (pv 1) (pa_cons pe_int pa_nil))) pa_nil)))) (pss_one (ps_expr (pe_cal c__law_plain (hr.mono (by decide)) rfl (pa_cons (pe_calS c_check_length tk (hr.mono (by decide)) rfl (pa_cons (pv 1) pa_nil)) pa_nil)))))))))))
  (pss_one (ps_ret pe_bl)))) (HdA.bare ⟨rfl, by decide, .inl e_E.m.g⟩ (fun a oe cls d pn _ _ => (pss_one (ps_ret pe_bl))) HdA.nil))), ?_⟩
  walk_at "rd"
  have hd : ∀ (σ : L2.St) (H' : Hp), Same H H' → WE (wA K (fun x x_1 x_2 x_3 => False) { nx := fun x H' => Q V.non H', rt := Q } [(Value.ref CM, none, fun a cls d => tRet (tC (V.bl true)))]) σ (.ref CM) none H' := fun σ H' s => by
    refine ⟨true, e_E.m.mm, fun _ a na => ?_, fun z => by cases z⟩
    exact q H' s
  rcases h with ⟨hw, hb⟩ | ⟨hw, hb⟩ | ⟨rfl, hb⟩
  · rw [if_pos (by omega)]
    try rw [CB.rd_callE]
    walk_at "rd"
    refine ⟨by decide, fun p np => ?_⟩
    have s1 := same_upd (o := HO.lst [V.ref f_plus, V.ref f_times]) np
    have hp : (upd H p (.lst [V.ref f_plus, V.ref f_times])) p = some (.lst [V.ref f_plus, V.ref f_times]) := upd_same
    generalize upd H p (.lst [V.ref f_plus, V.ref f_times]) = H1 at *
    rcases hw with rfl | rfl
    · exact ⟨_, SqL.of hp, _, rfl, f_plus, rfl, _, .inl ⟨rfl, rfl⟩, v, u, rfl, (hb.same s1).pair fun H2 s2 => hd _ H2 (s1.trans s2)⟩
    · exact ⟨_, SqL.of hp, _, rfl, f_times, rfl, _, .inr ⟨rfl, rfl⟩, v, u, rfl, (hb.same s1).pair fun H2 s2 => hd _ H2 (s1.trans s2)⟩
  · rw [if_neg (by omega)]
    rcases hw with rfl | rfl | rfl
    · rw [if_pos rfl]
      exact ⟨v, 2, rfl, .inl ⟨hb, fun H2 s2 => hd _ H2 s2⟩⟩
    · rw [if_neg (by decide), if_pos rfl]
      exact ⟨v, 2, rfl, .inl ⟨hb, fun H2 s2 => hd _ H2 s2⟩⟩
    · rw [if_neg (by decide), if_neg (by decide), if_pos rfl]
      exact ⟨v, 1, rfl, .inl ⟨hb, fun H2 s2 => hd _ H2 s2⟩⟩
  · rw [if_neg (by omega), if_neg (by omega), if_neg (by omega), if_neg (by omega)]
    exact ⟨v, rfl, .inl ⟨hb, hd _ H (Same.refl H)⟩⟩
end

local macro_rules | `(tactic| walk_at "rd") => `(tactic| simp (maxSteps := 2000000) only [CB.rd_var, CB.rd_C, CB.rd_op, CB.rd_un, CB.rd_I, CB.rd_I0, CB.rd_U, CB.rd_Eq, CB.rd_Ne, CB.rd_test, CB.rd_B, CB.rd_and, CB.rd_or, CB.rd_not, CB.rd_andV, CB.rd_orV, CB.rd_notV, CB.rd_if, CB.rd_chain, CB.rd_chain3,
  CB.rd_next, CB.rd_seq, CB.rd_drop, CB.rd_ret, CB.rd_retN, CB.rd_break, CB.rd_cont, CB.rd_ifS, CB.rd_asg, CB.rd_name, CB.rd_gsub, CB.rd_gtup, CB.rd_gcons, CB.rd_gnil, CB.rd_par, CB.rd_aug, CB.rd_ipI, CB.rd_nil, CB.rd_cons, CB.rd_tup, CB.rd_lst, CB.rd_CB, CB.rd_call, CB.rd_callS, CB.rd_ixL, CB.rd_ixT, CB.rd_setL, CB.rd_putS, CB.rd_forZ, CB.rd_lcZ, CB.rd_forE, CB.rd_isqrt, CB.rd_sum, CB.rd_append, CB.rd_forL, CB.rd_forT, CB.rd_forR1, CB.rd_forR2, CB.rd_forR3, CB.rd_lcL, CB.rd_lcT, CB.rd_lcR1, CB.rd_lcR2, CB.rd_yes, CB.rd_sl, CB.rd_noPart, CB.rd_part, CB.rd_slL, CB.rd_wipe0, CB.rd_rep, CB.rd_tupOf, CB.rd_lenS, CB.rd_gcd, CB.rd_wipe1, CB.rd_sorted3, CB.rd_any, CB.rd_all, CB.rd_ext, CB.rd_glst, CB.rd_sortedM, CB.rd_minD, CB.rd_indexD, CB.rd_pop, CB.rd_dnew, CB.rd_dget, CB.rd_dget2, CB.rd_dput, CB.rd_dm, CB.rd_anyI,
  L2.start, List.map_cons, List.map_nil, List.length_cons, List.length_nil, Nat.reduceAdd, Nat.reduceSub, List.replicate_succ, List.replicate_zero,
  V.int.injEq, V.ref.injEq, V.bl.injEq, V.str.injEq, Option.some.injEq, List.cons.injEq, exists_and_left, exists_eq_left', exists_eq_left, reduceCtorEq, false_and, and_false, or_false, false_or, exists_false, exists_const, and_assoc, true_and, and_true,
  CB.scal_int, CB.scal_str, CB.dec_ii, CB.ite_dec, CB.ite_ndec, List.getElem?_cons_zero, List.getElem?_cons_succ, List.set_cons_zero, List.set_cons_succ, List.append_nil, List.cons_append, List.nil_append, if_true, if_false, Bool.false_eq_true, Bool.not_true, Bool.not_false, CB.K_nox, CB.K_cxOf, eq_self])
local macro_rules | `(tactic| walk_at "rs") => `(tactic| simp (maxSteps := 2000000) only [CB.rd_var, CB.rd_C, CB.rd_op, CB.rd_un, CB.rd_I, CB.rd_I0, CB.rd_U, CB.rd_Eq, CB.rd_Ne, CB.rd_test, CB.rd_B, CB.rd_and, CB.rd_or, CB.rd_not, CB.rd_andV, CB.rd_orV, CB.rd_notV, CB.rd_if, CB.rd_chain, CB.rd_chain3,
  CB.rd_next, CB.rd_drop, CB.rd_ret, CB.rd_retN, CB.rd_break, CB.rd_cont, CB.rd_ifS, CB.rd_asg, CB.rd_name, CB.rd_gsub, CB.rd_gtup, CB.rd_gcons, CB.rd_gnil, CB.rd_par, CB.rd_aug, CB.rd_ipI, CB.rd_nil, CB.rd_cons, CB.rd_tup, CB.rd_lst, CB.rd_CB, CB.rd_call, CB.rd_callS, CB.rd_ixL, CB.rd_ixT, CB.rd_setL, CB.rd_putS, CB.rd_forZ, CB.rd_lcZ, CB.rd_forE, CB.rd_isqrt, CB.rd_sum, CB.rd_append, CB.rd_forL, CB.rd_forT, CB.rd_forR1, CB.rd_forR2, CB.rd_forR3, CB.rd_lcL, CB.rd_lcT, CB.rd_lcR1, CB.rd_lcR2, CB.rd_yes, CB.rd_sl, CB.rd_noPart, CB.rd_part, CB.rd_slL, CB.rd_wipe0, CB.rd_rep, CB.rd_tupOf, CB.rd_lenS, CB.rd_gcd, CB.rd_wipe1, CB.rd_sorted3, CB.rd_any, CB.rd_all, CB.rd_ext, CB.rd_glst, CB.rd_sortedM, CB.rd_minD, CB.rd_indexD, CB.rd_pop, CB.rd_dnew, CB.rd_dget, CB.rd_dget2, CB.rd_dput, CB.rd_dm, CB.rd_anyI,
  L2.start, List.map_cons, List.map_nil, List.length_cons, List.length_nil, Nat.reduceAdd, Nat.reduceSub, List.replicate_succ, List.replicate_zero,
  V.int.injEq, V.ref.injEq, V.bl.injEq, V.str.injEq, Option.some.injEq, List.cons.injEq, exists_and_left, exists_eq_left', exists_eq_left, reduceCtorEq, false_and, and_false, or_false, false_or, exists_false, exists_const, and_assoc, true_and, and_true,
  CB.scal_int, CB.scal_str, CB.dec_ii, CB.ite_dec, CB.ite_ndec, List.getElem?_cons_zero, List.getElem?_cons_succ, List.set_cons_zero, List.set_cons_succ, List.append_nil, List.cons_append, List.nil_append, if_true, if_false, Bool.false_eq_true, Bool.not_true, Bool.not_false, CB.K_nox, CB.K_cxOf, eq_self])

local macro_rules | `(tactic| walk_at "nx") => `(tactic| (show tSeq _ _ _ _ _; rw [CB.rd_seq]; walk_at "rs"))


section
variable {P : Program} {w : World} {K : PySem.W.Frag} {mg : Str → Option Value} {base : Heap} {CM : Addr}
/-! None is told as it is -/
def spOddZ : Sp := fun vs H Q _ => vs = [.non] ∧ ∀ H', Same H H' → Q (.bl false) H'
theorem cal_oddZ (D : Dn K mg "_law_odd" s__law_odd ["value"]) (B : Bl mg) (c__law_odd : Cal P w K mg base "_law_odd" 1 ["value"] spNev) : Cal P w K mg base "_law_odd" 2 ["value"] spOddZ := by
  refine D.cal sc__law_odd (fun vs H Q E h => by obtain ⟨rfl, _⟩ := h; rfl) (fun f cdv A outer s H vs Q E hr h => ?_)
  obtain ⟨rfl, q⟩ := h
  refine ⟨_, (pss_cons (ps_if (pt_cmpR (op_eqD hr.units) (pv 0) pe_str (nomark _)) (pss_one (ps_ret pe_bl)) pss_nil)
  (pss_one (ps_ret (pe_and (pe_callB call_isiT rfl B.isinstance (by decide +kernel) (pa_cons (pv 0) (pa_cons (pe_tup (pa_cons (pe_bltn (v := .ty "tuple") rfl B.tuple boot_tuple rfl) (pa_cons (pe_bltn (v := .ty "list") rfl B.list boot_list rfl) pa_nil))) pa_nil))) (pe_one (pe_cmpR op_gt (pe_callB cr_lenS rfl B.len (by decide +kernel) (pa_cons (pe_lc (own := [("item", 1)]) rfl sc__law_odd.nd (pi_tup (pv 0)) (blkOk_by (N := ["value", "item"]) (sc := defScope s__law_odd) (own := [("item", 1)]) (by decide +kernel)) (fun _ _ _ _ _ => (pg_name (i := 1) sc__law_odd.nd rfl (Or.inl rfl))) (fun _ _ _ _ _ => (pts_one (pt_val (pe_cal c__law_odd (hr.mono (by decide)) rfl (pa_cons (pv 1) pa_nil))))) (fun _ _ _ _ _ => (pv 1))) pa_nil)) pe_int (nomark _))))))), ?_⟩
  walk_at "nx"
  refine ⟨.none, .str _, .non, .str _, by decide +kernel, by decide +kernel, ?_⟩
  rw [show PyData.eqv .none (.str _) = false from rfl]
  refine ⟨_, rfl, ?_⟩
  rw [if_neg (by decide)]
  refine ⟨by decide, fun p np => isiT_mk upd_same (.base .non) (b1 := false) (b2 := false) (by decide +kernel) (by decide +kernel) ⟨_, rfl, ?_⟩⟩
  exact q _ (same_upd np)
def spPlN : Sp := fun vs H Q _ => vs = [.non] ∧ ∀ H', Same H H' → Q .non H'
theorem cal_plN (D : Dn K mg "_law_plain" s__law_plain ["value"]) (B : Bl mg) (c__law_odd : Cal P w K mg base "_law_odd" 2 ["value"] spOddZ) : Cal P w K mg base "_law_plain" 3 ["value"] spPlN := by
  refine D.cal sc__law_plain (fun vs H Q E h => by obtain ⟨rfl, _⟩ := h; rfl) (fun f cdv A outer s H vs Q E hr h => ?_)
  obtain ⟨rfl, q⟩ := h
  refine ⟨_, (pss_one (ps_ret (pe_ifExp (pt_val (pe_cal c__law_odd (hr.mono (by decide)) rfl (pa_cons (pv 0) pa_nil))) pe_str (pv 0)))), ?_⟩
  walk_at "rs"
  refine ⟨rfl, fun H1 s1 => ⟨false, rfl, ?_⟩⟩
  rw [if_neg (by decide)]
  exact q _ s1
/-! tuples put together -/
theorem cat_any {H : Hp} {a b : Addr} {xs ys : List V} {Q : VK} (ha : H a = some (.tup xs)) (hb : H b = some (.tup ys)) (hl : xs.length + ys.length ≤ 100000) (q : ∀ p H', Same H H' → H' p = some (.tup (xs ++ ys)) → Q (.ref p) H') : rCatA K (.ref a) (.ref b) H Q := by
  rw [CB.rd_catA]
  obtain ⟨l, hl1, m, hm, r⟩ := cat_end (K := K) (Q := Q) ha hb hl q
  exact ⟨a, b, l, m, rfl, rfl, hl1, hm, r⟩
theorem sl_any {H : Hp} {a : Addr} {xs : List V} {lo hi : Option Int} {Q : VK} (ha : H a = some (.tup xs)) (q : ∀ p H', Same H H' → H' p = some (.tup (cutV xs lo hi)) → Q (.ref p) H') : rSlA K (.ref a) lo hi H Q := by
  rw [CB.rd_slA]
  refine ⟨a, xs, rfl, SqT.of ha, fun ⟨h1, h2⟩ => q a H (Same.refl _) ?_, fun _ p np => q p _ (same_upd np) upd_same⟩
  rw [ha]
  unfold cutV
  rw [h1, h2, List.drop_zero, Nat.sub_zero, List.take_length]
theorem its_app {H : Hp} {xs ys : List V} {ts us : List String} (h : Its K H xs ts) (h' : Its K H ys us) : Its K H (xs ++ ys) (ts ++ us) := by
  refine ⟨by rw [List.length_append, List.length_append, h.1, h'.1], fun i x t hx ht => ?_⟩
  rcases Nat.lt_or_ge i xs.length with c | c
  · rw [List.getElem?_append_left c] at hx
    rw [List.getElem?_append_left (by rw [h.1]; exact c)] at ht
    exact h.2 i x t hx ht
  · rw [List.getElem?_append_right c] at hx
    rw [List.getElem?_append_right (by rw [h.1]; exact c), h.1] at ht
    exact h'.2 _ x t hx ht
theorem its1 {H : Hp} {v : V} {T : String} (h : ∀ H', Same H H' → TyX K H' v (.type T)) (hT : T ∈ kinds) : Its K H [v] [T] := by
  refine ⟨rfl, fun i x t hx ht => ?_⟩
  match i, hx, ht with
  | 0, hx, ht => cases hx; cases ht; exact ⟨h, hT⟩
  | n + 1, hx, ht => simp at hx
theorem Its.same' {H H' : Hp} {xs : List V} {ts : List String} (h : Its K H xs ts) (s : Same H H') : Its K H' xs ts := ⟨h.1, fun i x t hx ht => ⟨fun H2 s2 => (h.2 i x t hx ht).1 H2 (s.trans s2), (h.2 i x t hx ht).2⟩⟩
theorem stB_no {H : Hp} {v : V} {T : String} (h : ∀ H', Same H H' → TyX K H' v (.type T)) (hT : T ∈ kinds) (n : (T == "tuple") = false) : StB K H v := fun H' s => .inl ⟨T, h H' s, hT, n⟩
theorem stB_tup {H : Hp} {p : Addr} {xs : List V} {ts : List String} (hp : H p = some (.tup xs)) (hI : Its K H xs ts) (hl : xs.length < 1000) (hb : serB xs.length ts = false) : StB K H (.ref p) := fun H' s => .inr ⟨p, xs, ts, rfl, s _ _ hp, hI.same' s, hl, hb⟩
theorem ser_bad {H : Hp} {v : V} {Q : VK} {E : Value → Option Addr → Hp → Prop} (h : BadS K H v) (q : ∀ H', Same H H' → Q (.bl false) H') : spIsSer K [v] H Q E := by
  rcases h with h | ⟨p, xs, ts, rfl, hp, hI, hl, hb⟩
  · exact ⟨v, rfl, .inl ⟨h, q H (Same.refl H)⟩⟩
  · exact ⟨_, rfl, .inr ⟨p, xs, ts, rfl, hp, hI, hl, fun H' s => by rw [hb]; exact q H' s⟩⟩
theorem all_mid {a b : List String} {t : String} (h : (t == "int") = false) {n : Nat} : serB n (a ++ [t] ++ b) = false := by
  unfold serB
  rw [List.all_append, List.all_append]
  simp [h]
theorem args_step {te : TE} {ts : TA} {σ : L2.St} {H : Hp} {R : List V → Hp → Prop} (Pst : V → Hp → Prop) (h : ∀ Rr : VK, (∀ v H1, Pst v H1 → Rr v H1) → te σ H Rr) (k : ∀ v H1, Pst v H1 → ts σ H1 fun xs H2 => R (v :: xs) H2) : tCons te ts σ H R := h _ k
abbrev s__law_values_hold : Stmt := top 39
theorem sc__law_values_hold : FnScope ["state", "f", "at", "bad", "value", "k"] ["state", "f"] (defScope s__law_values_hold) := ⟨rfl, rfl, rfl, by decide +kernel, rfl, by decide +kernel, by decide +kernel⟩

def spVals : Sp := fun vs H Q _ => ∃ (st p : Addr) (x y : Int) (ns : List Int), vs = [.ref st, .ref p] ∧ H st = some (.lst [.int x, .int y]) ∧ H p = some (.tup (ns.map V.int)) ∧ 1 ≤ ns.length ∧ ns.length ≤ 12 ∧ ∀ H', Q (.bl true) H'
theorem cal_vals (D : Dn K mg "_law_values_hold" s__law_values_hold ["state", "f"]) (B : Bl mg) (c__law_take : Cal P w K mg base "_law_take" 1 ["state", "m"] spTake) (c__law_refused : Cal P w K mg base "_law_refused" 7 ["which", "f", "g"] (spRef K)) (c_is_series : Cal P w K mg base "is_series" 3 ["value"] (spIsSer K))
    (c_check_length : CalX P w K mg base "check_length" 3 ["size"] (spChkL K CM)) (c_plainN : Cal P w K mg base "_law_plain" 3 ["value"] spPlN) : Cal P w K mg base "_law_values_hold" 8 ["state", "f"] spVals := by
  refine D.cal sc__law_values_hold (fun vs H Q E h => by obtain ⟨st, p, x, y, ns, rfl, _⟩ := h; rfl) (fun f cdv A outer s H vs Q E hr h => ?_)
  obtain ⟨st, p, x, y, ns, rfl, hs, hp, n1, n12, q⟩ := h
  refine ⟨_, (pss_cons (ps_set (i := 2) sc__law_values_hold.nd rfl (Or.inl rfl) (pe_cal c__law_take (hr.mono (by decide)) rfl (pa_cons (pv 0) (pa_cons (pe_callB cr_lenS rfl B.len (by decide +kernel) (pa_cons (pv 1) pa_nil)) pa_nil))))
  (pss_cons (ps_set (i := 3) sc__law_values_hold.nd rfl (Or.inl rfl) (pe_lst (pa_cons pe_non (pa_cons pe_int (pa_cons pe_str (pa_cons (pe_tup pa_nil) (pa_cons (pe_callTy call_list_of rfl B.list boot_list (pa_cons (pv 1) pa_nil)) (pa_cons (pe_op op_catA (pv 1) (pe_tup (pa_cons pe_non pa_nil))) (pa_cons (pe_op op_catA (pe_op op_catA (pe_slice sl_tupA (pv 1) po_none (po_some (pv 2))) (pe_tup (pa_cons pe_bl pa_nil))) (pe_slice sl_tupA (pv 1) (po_some (pe_op op_add (pv 2) pe_int)) po_none)) (pa_cons (pe_op op_catA (pe_op op_catA (pe_slice sl_tupA (pv 1) po_none (po_some (pv 2))) (pe_tup (pa_cons pe_str pa_nil))) (pe_slice sl_tupA (pv 1) (po_some (pe_op op_add (pv 2) pe_int)) po_none)) (pa_cons (pe_tup (pa_cons (pv 1) pa_nil)) (pa_cons (pe_op op_repT (pe_tup (pa_cons pe_int pa_nil)) pe_int) pa_nil))))))))))))
  (pss_cons (ps_for PassesOwn.never rfl (pi_list (pv 3)) (pg_name (i := 4) sc__law_values_hold.nd rfl (Or.inr rfl)) (pss_cons (ps_if (PW.pt (pw_or (pt_cmpR op_notBl (pe_cal c_is_series (hr.mono (by decide)) rfl (pa_cons (pv 4) pa_nil)) pe_bl (nomark _)) (pw_or1 (pt_cmpR (op_neD hr.units) (pe_lc (own := [("k", 5)]) rfl sc__law_values_hold.nd (pi_range1 rfl B.range (pa_cons pe_int pa_nil)) (blkOk_by (N := ["state", "f", "at", "bad", "value", "k"]) (sc := defScope s__law_values_hold) (own := [("k", 5)]) (by decide +kernel)) (fun _ _ _ _ _ => (pg_name (i := 5) sc__law_values_hold.nd rfl (Or.inl rfl))) (fun _ _ _ _ _ => pts_nil) (fun _ _ _ _ _ => (pe_cal c__law_refused (hr.mono (by decide)) rfl (pa_cons (pv 5) (pa_cons (pv 4) (pa_cons (pv 1) pa_nil)))))) (pe_op op_rep (pe_lst (pa_cons pe_bl pa_nil)) pe_int) (nomark _))))) (pss_one (ps_ret pe_bl)) pss_nil)
  (pss_one (ps_if (PW.pt (pw_or (pt_not (pt_val (pe_cal c__law_refused (hr.mono (by decide)) rfl (pa_cons pe_int (pa_cons (pv 1) (pa_cons (pv 4) pa_nil)))))) (pw_or1 (pt_not (pt_val (pe_cal c__law_refused (hr.mono (by decide)) rfl (pa_cons pe_int (pa_cons (pv 1) (pa_cons (pv 4) pa_nil))))))))) (pss_one (ps_ret pe_bl)) pss_nil))))
  (pss_cons (ps_if (PW.pt (pw_or (pt_not (pt_val (pe_cal c__law_refused (hr.mono (by decide)) rfl (pa_cons pe_int (pa_cons (pv 1) (pa_cons (pe_op op_catA (pv 1) (pe_tup (pa_cons pe_int pa_nil))) pa_nil)))))) (pw_or1 (pt_not (pt_val (pe_cal c__law_refused (hr.mono (by decide)) rfl (pa_cons pe_int (pa_cons (pe_op op_catA (pv 1) (pe_tup (pa_cons pe_int pa_nil))) (pa_cons (pv 1) pa_nil))))))))) (pss_one (ps_ret pe_bl)) pss_nil)
  (pss_cons (ps_for PassesOwn.never rfl (pi_list (pe_lst (pa_cons pe_int (pa_cons (pe_un un_neg pe_int) (pa_cons pe_int (pa_cons pe_bl (pa_cons pe_non (pa_cons pe_str (pa_cons (pe_tup (pa_cons pe_int pa_nil)) pa_nil))))))))) (pg_name (i := 4) sc__law_values_hold.nd rfl (Or.inr rfl)) (pss_one (ps_if (pt_not (pt_val (pe_cal c__law_refused (hr.mono (by decide)) rfl (pa_cons pe_int (pa_cons (pv 4) (pa_cons (pv 1) pa_nil)))))) (pss_one (ps_ret pe_bl)) pss_nil)))
  (pss_one (ps_ret (pe_and (pe_cmpR op_isN (pe_cal c_plainN (hr.mono (by decide)) rfl (pa_cons (pe_calS c_check_length takes0 (hr.mono (by decide)) rfl (pa_cons (pe_callB cr_lenS rfl B.len (by decide +kernel) (pa_cons (pv 1) pa_nil)) pa_nil)) pa_nil)) pe_non (nomark _)) (pe_one (pe_cmpR op_isN (pe_cal c_plainN (hr.mono (by decide)) rfl (pa_cons (pe_calS c_check_length takes0 (hr.mono (by decide)) rfl (pa_cons pe_int pa_nil)) pa_nil)) pe_non (nomark _))))))))))), ?_⟩
  rw [CB.rd_seq]
  walk_at "rs"
  refine ⟨(ns.map V.int).length, .inr ⟨_, SqT.of hp, rfl⟩, st, x, y, _, rfl, hs, by rw [List.length_map]; omega, lg_int (by rw [List.length_map]; omega), fun at_ x1 y1 a0 a1 => ?_⟩
  rw [List.length_map] at a1
  have hp1 : (upd H st (.lst [.int x1, .int y1])) p = some (.tup (ns.map V.int)) := by rw [upd_ne (ne_of hp hs (by intro z; cases z))]; exact hp
  generalize upd H st (.lst [.int x1, .int y1]) = H1 at *
  obtain ⟨n, rfl⟩ := Int.eq_ofNat_of_zero_le a0
  clear hs hp
  have c1 : cutV (ns.map V.int) none (some (n : Int)) = (ns.map V.int).take n := by
    unfold cutV
    rw [show HT.sIx (ns.map V.int).length (ns.map V.int).length (some (n : Int)) = min n (ns.map V.int).length from HT.sIx_nat _ _ _, HT.sIx_none, List.drop_zero, Nat.sub_zero, List.length_map, Nat.min_eq_left (by omega)]
  have c2 : cutV (ns.map V.int) (some ((n : Int) + 1)) none = (ns.map V.int).drop (n + 1) := by
    rw [show (n : Int) + 1 = ((n + 1 : Nat) : Int) by omega]
    exact cutV_from (by rw [List.length_map]; omega)
  show tSeq _ _ _ _ _
  refine seq_cut (fun σ H2 => ∃ (lb : Addr) (L : List V), σ = [some (.ref st), some (.ref p), some (.int n), some (.ref lb), none, none] ∧ Same H1 H2 ∧ H2 lb = some (.lst L) ∧ ∀ v ∈ L, StB K H2 v) (fun R hR => ?_) ?_
  · rw [CB.rd_asg, CB.rd_lst]
    have sN : ∀ {H0 H' : Hp} {v : V} {T : String}, (∀ H2, Same H' H2 → TyX K H2 v (.type T)) → T ∈ kinds → (T == "tuple") = false → Same H0 H' → Same H0 H' ∧ StB K H' v := fun a b c d => ⟨d, stB_no a b c⟩
    refine args_step (fun v G => Same H1 G ∧ StB K G v) (fun Rr hR => ?_) (fun v0 G0 b0 => ?_)
    · walk_at "rs"
      exact hR _ _ (sN (fun _ _ => .base .non) (by decide) (by decide) (Same.refl _))
    refine args_step (fun v G => Same G0 G ∧ StB K G v) (fun Rr hR => ?_) (fun v1 G1 b1 => ?_)
    · walk_at "rs"
      exact hR _ _ (sN (fun _ _ => .base (.int 1)) (by decide) (by decide) (Same.refl _))
    refine args_step (fun v G => Same G1 G ∧ StB K G v) (fun Rr hR => ?_) (fun v2 G2 b2 => ?_)
    · walk_at "rs"
      exact hR _ _ (sN (fun _ _ => .base (.str _)) (by decide) (by decide) (Same.refl _))
    have hp3 := b2.1 _ _ (b1.1 _ _ (b0.1 _ _ hp1))
    refine args_step (fun v G => Same G2 G ∧ StB K G v) (fun Rr hR => ?_) (fun v3 G3 b3 => ?_)
    · walk_at "rs"
      refine ⟨by decide, fun e ne => hR _ _ ⟨same_upd ne, stB_tup (ts := []) upd_same ⟨rfl, fun i x t hx => by simp at hx⟩ (by decide) (by decide)⟩⟩
    have hp4 := b3.1 _ _ hp3
    refine args_step (fun v G => Same G3 G ∧ StB K G v) (fun Rr hR => ?_) (fun v4 G4 b4 => ?_)
    · walk_at "rs"
      refine ⟨_, .inr (SqT.of hp4), fun l nl => hR _ _ (sN (fun H2 s2 => .base (.lst (s2 _ _ upd_same))) (by decide) (by decide) (same_upd nl))⟩
    have hp5 := b4.1 _ _ hp4
    refine args_step (fun v G => Same G4 G ∧ StB K G v) (fun Rr hR => ?_) (fun v5 G5 b5 => ?_)
    · walk_at "rs"
      refine ⟨by decide, fun t nt => cat_any (same_upd nt _ _ hp5) upd_same (by rw [List.length_map]; show _ + 1 ≤ _; omega) fun r G' s' hr' => hR _ _ ⟨(same_upd nt).trans s', stB_tup (ts := (ns.map fun _ => "int") ++ ["NoneType"]) hr' (its_app (its_ints ns) (its1 (fun _ _ => .base .non) (by decide))) (by rw [List.length_append, List.length_map]; show _ + 1 < _; omega) ?_⟩⟩
      have := all_mid (a := ns.map fun _ => "int") (t := "NoneType") (b := []) (by decide) (n := ((ns.map V.int) ++ [V.non]).length)
      rwa [List.append_nil] at this
    have hp6 := b5.1 _ _ hp5
    refine args_step (fun v G => Same G5 G ∧ StB K G v) (fun Rr hR => ?_) (fun v6 G6 b6 => ?_)
    · walk_at "rs"
      refine sl_any hp6 fun ra Ga sa ha => ?_
      rw [c1] at ha
      refine ⟨by decide, fun t nt => cat_any (same_upd nt _ _ ha) upd_same (by rw [List.length_take, List.length_map]; show _ + 1 ≤ _; omega) fun rb Gb sb hb => ?_⟩
      refine sl_any (sb _ _ (same_upd nt _ _ (sa _ _ hp6))) fun rc Gc sc hc => ?_
      rw [c2] at hc
      refine cat_any (sc _ _ hb) hc (by rw [List.length_append, List.length_take, List.length_drop, List.length_map]; show _ + 1 + _ ≤ _; omega) fun rd Gd sd hd => hR _ _ ⟨((((sa.trans (same_upd nt)).trans sb).trans sc).trans sd), stB_tup (ts := ((ns.take n).map fun _ => "int") ++ ["bool"] ++ ((ns.drop (n + 1)).map fun _ => "int")) hd ?_ ?_ (all_mid (by decide))⟩
      · rw [← List.map_take, ← List.map_drop]
        exact its_app (its_app (its_ints _) (its1 (fun _ _ => .base (.bl true)) (by decide))) (its_ints _)
      · rw [List.length_append, List.length_append, List.length_take, List.length_drop, List.length_map]
        show _ + 1 + _ < _
        omega
    have hp7 := b6.1 _ _ hp6
    refine args_step (fun v G => Same G6 G ∧ StB K G v) (fun Rr hR => ?_) (fun v7 G7 b7 => ?_)
    · walk_at "rs"
      refine sl_any hp7 fun ra Ga sa ha => ?_
      rw [c1] at ha
      refine ⟨by decide, fun t nt => cat_any (same_upd nt _ _ ha) upd_same (by rw [List.length_take, List.length_map]; show _ + 1 ≤ _; omega) fun rb Gb sb hb => ?_⟩
      refine sl_any (sb _ _ (same_upd nt _ _ (sa _ _ hp7))) fun rc Gc sc hc => ?_
      rw [c2] at hc
      refine cat_any (sc _ _ hb) hc (by rw [List.length_append, List.length_take, List.length_drop, List.length_map]; show _ + 1 + _ ≤ _; omega) fun rd Gd sd hd => hR _ _ ⟨((((sa.trans (same_upd nt)).trans sb).trans sc).trans sd), stB_tup (ts := ((ns.take n).map fun _ => "int") ++ ["str"] ++ ((ns.drop (n + 1)).map fun _ => "int")) hd ?_ ?_ (all_mid (by decide))⟩
      · rw [← List.map_take, ← List.map_drop]
        exact its_app (its_app (its_ints _) (its1 (fun _ _ => .base (.str _)) (by decide))) (its_ints _)
      · rw [List.length_append, List.length_append, List.length_take, List.length_drop, List.length_map]
        show _ + 1 + _ < _
        omega
    have hp8 := b7.1 _ _ hp7
    refine args_step (fun v G => Same G7 G ∧ StB K G v) (fun Rr hR => ?_) (fun v8 G8 b8 => ?_)
    · walk_at "rs"
      refine ⟨by decide, fun t nt => hR _ _ ⟨same_upd nt, stB_tup (ts := ["tuple"]) upd_same (its1 (fun H2 s2 => .base (.tup (s2 _ _ (same_upd nt _ _ hp8)))) (by decide)) (by show 1 < 1000; decide) (by show serB 1 ["tuple"] = false; decide)⟩⟩
    refine args_step (fun v G => Same G8 G ∧ StB K G v) (fun Rr hR => ?_) (fun v9 G9 b9 => ?_)
    · walk_at "rs"
      refine ⟨by decide, fun t nt => ?_⟩
      rw [CB.rd_repT]
      refine ⟨t, 401, [.int 0], rfl, rfl, SqT.of upd_same, by decide, by decide, by decide, by decide, fun r nr => hR _ _ ⟨(same_upd nt).trans (same_upd nr), stB_tup (ts := (List.replicate 401 (0 : Int)).map fun _ => "int") upd_same ?_ ?_ ?_⟩⟩
      · rw [rep_flat, show (List.replicate (Int.toNat 401) (V.int 0)) = (List.replicate 401 (0 : Int)).map V.int by rw [List.map_replicate]; rfl]
        exact its_ints _
      · rw [rep_flat, List.length_replicate]
        decide
      · rw [rep_flat, List.length_replicate]
        unfold serB
        rw [decide_eq_false (by decide), Bool.false_and]
    rw [CB.rd_nil]
    refine ⟨by show 10 ≤ _; rw [PySem.sizeLine_eq]; decide, fun lb nlb => ?_⟩
    have sF : Same G9 (upd G9 lb (.lst [v0, v1, v2, v3, v4, v5, v6, v7, v8, v9])) := same_upd nlb
    have t8 := b9.1.trans sF
    have t7 := b8.1.trans t8
    have t6 := b7.1.trans t7
    have t5 := b6.1.trans t6
    have t4 := b5.1.trans t5
    have t3 := b4.1.trans t4
    have t2 := b3.1.trans t3
    have t1 := b2.1.trans t2
    have t0 := b1.1.trans t1
    refine hR _ _ ⟨lb, _, rfl, b0.1.trans t0, upd_same, fun v hv => ?_⟩
    simp only [List.mem_cons, List.not_mem_nil, or_false] at hv
    rcases hv with rfl | rfl | rfl | rfl | rfl | rfl | rfl | rfl | rfl | rfl
    · exact b0.2.same t0
    · exact b1.2.same t1
    · exact b2.2.same t2
    · exact b3.2.same t3
    · exact b4.2.same t4
    · exact b5.2.same t5
    · exact b6.2.same t6
    · exact b7.2.same t7
    · exact b8.2.same t8
    · exact b9.2.same sF
  rintro σ H2 ⟨lb, L, rfl, s2, hlb, hL⟩
  have hp2 := s2 _ _ hp1
  refine seq_cut (fun σ H3 => (∃ t4, σ = [some (.ref st), some (.ref p), some (.int n), some (.ref lb), t4, none]) ∧ Same H2 H3) (fun R hR => ?_) ?_
  · walk_at "rs"
    have good : ∀ G, Same H2 G → GoodS G (.ref p) ns := fun G s => ⟨p, rfl, s _ _ hp2, n1, by omega⟩
    refine ⟨⟨_, SqL.of hlb⟩, ForL.w (xs := L) (fun i σ H3 => (∃ t4, σ = [some (.ref st), some (.ref p), some (.int n), some (.ref lb), t4, none]) ∧ Same H2 H3) ⟨⟨_, rfl⟩, Same.refl _⟩ (fun i σ H3 _ ⟨_, s⟩ => SqL.of (s _ _ hlb)) ?_ ?_⟩
    · rintro i v σ H3 hv ⟨⟨t4, rfl⟩, s3⟩ N hN
      have bv := (hL v (List.mem_of_getElem? hv)).same s3
      walk_at "rs"
      rw [CB.rd_seq]
      walk_at "rs"
      refine ser_bad (bv H3 (Same.refl _)) fun H4 s4 => ⟨false, false, rfl, rfl, _, rfl, ?_⟩
      rw [if_neg (by decide)]
      refine ⟨by decide, by decide, ?_⟩
      refine LcR.p (fun _ => some (V.bl true)) (by decide) ?_ ?_
      · intro k hk H5 s5 M S hM hS
        rw [Int.zero_add]
        walk_at "rd"
        have k5 : k < 5 := hk
        have b5 := bv.same (s4.trans s5)
        refine ⟨_, v, _, rfl, ?_, fun H6 s6 => hM _ _ rfl s6⟩
        by_cases c : k < 2
        · exact .inl ⟨by omega, .inl b5⟩
        · exact .inr (.inl ⟨by omega, b5⟩)
      · intro D5 H5 nD5 s5 hD5
        have hD5 : H5 D5 = some (.lst [V.bl true, V.bl true, V.bl true, V.bl true, V.bl true]) := hD5
        refine ⟨by decide, fun q1 nq1 => ⟨_, upd_same, by decide, by decide, by show 1 * 5 ≤ _; rw [PySem.sizeLine_eq]; decide, fun q2 nq2 => ?_⟩⟩
        have s6 := (same_upd (o := HO.lst [V.bl true]) nq1).trans (same_upd (o := HO.lst (List.replicate (Int.toNat 5) [V.bl true]).flatten) nq2)
        have h1 := s6 _ _ hD5
        have h2 : (upd (upd H5 q1 (.lst [V.bl true])) q2 (.lst (List.replicate (Int.toNat 5) [V.bl true]).flatten)) q2 = some (.lst [V.bl true, V.bl true, V.bl true, V.bl true, V.bl true]) := upd_same
        have five : ∀ G, DpAll K G [V.bl true, V.bl true, V.bl true, V.bl true, V.bl true] [.bool true, .bool true, .bool true, .bool true, .bool true] := fun G => .cons (.bl _) (.cons (.bl _) (.cons (.bl _) (.cons (.bl _) (.cons (.bl _) .nil))))
        generalize upd (upd H5 q1 (.lst [V.bl true])) q2 (.lst (List.replicate (Int.toNat 5) [V.bl true]).flatten) = H6 at *
        refine ⟨_, _, .lst (SqL.of h1) (five _), .lst (SqL.of h2) (five _), by decide +kernel, by decide +kernel, ?_⟩
        rw [show PyData.eqv (.list [.bool true, .bool true, .bool true, .bool true, .bool true]) (.list [.bool true, .bool true, .bool true, .bool true, .bool true]) = true by decide +kernel]
        have s7 := (s4.trans s5).trans s6
        have b7 := bv.same s7
        refine ⟨_, rfl, ?_⟩
        rw [if_neg (by decide)]
        refine ⟨0, _, _, rfl, .inl ⟨.inl rfl, .inr (.inl ⟨ns, good _ (s3.trans s7), b7⟩)⟩, fun H8 s8 => ⟨true, rfl, ?_⟩⟩
        rw [if_neg (by decide)]
        refine ⟨1, _, _, rfl, .inl ⟨.inr rfl, .inr (.inl ⟨ns, good _ ((s3.trans s7).trans s8), b7.same s8⟩)⟩, fun H9 s9 => ⟨true, rfl, ?_⟩⟩
        rw [if_neg (by decide)]
        exact hN _ _ ⟨⟨_, rfl⟩, ((s3.trans s7).trans s8).trans s9⟩
    · rintro σ H3 ⟨⟨t4, rfl⟩, s3⟩
      exact hR _ _ ⟨⟨_, rfl⟩, s3⟩
  rintro σ H3 ⟨⟨t4, rfl⟩, s3⟩
  have hp3 := s3 _ _ hp2
  rw [CB.rd_seq]
  walk_at "rs"
  have app : ∀ (G : Hp) (r : Addr), G r = some (.tup (ns.map V.int ++ [V.int 0])) → GoodS G (.ref r) (ns ++ [0]) := fun G r h => ⟨r, rfl, by rw [h, List.map_append]; rfl, by rw [List.length_append]; show 1 ≤ _ + 1; omega, by rw [List.length_append]; show _ + 1 ≤ _; omega⟩
  have gp : ∀ G, Same H3 G → GoodS G (.ref p) ns := fun G s => ⟨p, rfl, s _ _ hp3, n1, by omega⟩
  have ll : (ns ++ [(0 : Int)]).length = ns.length + 1 := by rw [List.length_append]; rfl
  refine ⟨by decide, fun r1 nr1 => cat_any (same_upd nr1 _ _ hp3) upd_same (by rw [List.length_map]; show _ + 1 ≤ _; omega) fun r2 H4 s4 hr2 => ⟨0, _, _, rfl, .inl ⟨.inl rfl, .inr (.inr ⟨ns, ns ++ [0], gp _ ((same_upd nr1).trans s4), app _ _ hr2, by omega⟩)⟩, fun H5 s5 => ⟨true, rfl, ?_⟩⟩⟩
  rw [if_neg (by decide)]
  have hp5 := s5 _ _ (s4 _ _ (same_upd nr1 _ _ hp3))
  refine ⟨by decide, fun r3 nr3 => cat_any (same_upd nr3 _ _ hp5) upd_same (by rw [List.length_map]; show _ + 1 ≤ _; omega) fun r4 H6 s6 hr4 => ⟨1, _, _, rfl, .inl ⟨.inr rfl, .inr (.inr ⟨ns ++ [0], ns, app _ _ hr4, ⟨p, rfl, s6 _ _ (same_upd nr3 _ _ hp5), n1, by omega⟩, by omega⟩)⟩, fun H7 s7 => ⟨true, rfl, ?_⟩⟩⟩
  rw [if_neg (by decide)]
  have hp7 := s7 _ _ (s6 _ _ (same_upd nr3 _ _ hp5))
  clear gp
  walk_at "nx"
  refine ⟨by decide, fun q1 nq1 => ⟨by show 7 ≤ _; rw [PySem.sizeLine_eq]; decide, fun q2 nq2 => ?_⟩⟩
  have hq1 := same_upd (o := HO.lst [V.int 0, V.int (-1), V.int 401, V.bl true, V.non, V.str (Str.ofString "1"), V.ref q1]) nq2 _ _ (upd_same (H := H7) (a := q1) (o := HO.tup [V.int 1]))
  have hq2 : (upd (upd H7 q1 (.tup [V.int 1])) q2 (.lst [V.int 0, V.int (-1), V.int 401, V.bl true, V.non, V.str (Str.ofString "1"), V.ref q1])) q2 = some (.lst [V.int 0, V.int (-1), V.int 401, V.bl true, V.non, V.str (Str.ofString "1"), V.ref q1]) := upd_same
  have hp8 := same_upd (o := HO.lst [V.int 0, V.int (-1), V.int 401, V.bl true, V.non, V.str (Str.ofString "1"), V.ref q1]) nq2 _ _ (same_upd (o := HO.tup [V.int 1]) nq1 _ _ hp7)
  generalize upd (upd H7 q1 (.tup [V.int 1])) q2 (.lst [V.int 0, V.int (-1), V.int 401, V.bl true, V.non, V.str (Str.ofString "1"), V.ref q1]) = H8 at *
  have hB : ∀ v ∈ [V.int 0, V.int (-1), V.int 401, V.bl true, V.non, V.str (Str.ofString "1"), V.ref q1], ∀ G, Same H8 G → BadLn K G v := fun v hv G s => by
    simp only [List.mem_cons, List.not_mem_nil, or_false] at hv
    rcases hv with rfl | rfl | rfl | rfl | rfl | rfl | rfl
    · exact .inr ⟨0, rfl, by decide⟩
    · exact .inr ⟨-1, rfl, by decide⟩
    · exact .inr ⟨401, rfl, by decide⟩
    · exact .inl ⟨"bool", .base (.bl true), by decide, by decide⟩
    · exact .inl ⟨"NoneType", .base .non, by decide, by decide⟩
    · exact .inl ⟨"str", .base (.str _), by decide, by decide⟩
    · exact .inl ⟨"tuple", .base (.tup (s _ _ hq1)), by decide, by decide⟩
  refine ⟨⟨_, SqL.of hq2⟩, ForL.w (xs := [V.int 0, V.int (-1), V.int 401, V.bl true, V.non, V.str (Str.ofString "1"), V.ref q1]) (fun i σ G => (∃ t4, σ = [some (.ref st), some (.ref p), some (.int n), some (.ref lb), t4, none]) ∧ Same H8 G) ⟨⟨_, rfl⟩, Same.refl _⟩ (fun i σ G _ ⟨_, s⟩ => SqL.of (s _ _ hq2)) ?_ ?_⟩
  · rintro i v σ G hv ⟨⟨t5, rfl⟩, sG⟩ N hN
    walk_at "rs"
    refine ⟨5, _, _, rfl, .inr (.inr ⟨rfl, hB v (List.mem_of_getElem? hv) G sG⟩), fun G2 sG2 => ⟨true, rfl, ?_⟩⟩
    rw [if_neg (by decide)]
    exact hN _ _ ⟨⟨_, rfl⟩, sG.trans sG2⟩
  rintro σ G ⟨⟨t5, rfl⟩, sG⟩
  walk_at "rs"
  refine ⟨(ns.map V.int).length, .inr ⟨_, SqT.of (sG _ _ hp8), rfl⟩, ?_⟩
  rw [List.length_map]
  refine ⟨_, rfl, .inr ⟨_, rfl, by omega, by omega, rfl, fun G2 s2 => ?_⟩⟩
  show (if V.non = V.non then _ else _)
  rw [if_pos rfl]
  refine ⟨_, rfl, .inr ⟨_, rfl, by decide, by decide, rfl, fun G3 s3 => ?_⟩⟩
  show Q (.bl (decide (V.non = V.non))) G3
  rw [decide_eq_true rfl]
  exact q _
end

local macro_rules | `(tactic| walk_at "rd") => `(tactic| simp (maxSteps := 2000000) only [CB.rd_var, CB.rd_C, CB.rd_op, CB.rd_un, CB.rd_I, CB.rd_I0, CB.rd_U, CB.rd_Eq, CB.rd_Ne, CB.rd_test, CB.rd_B, CB.rd_and, CB.rd_or, CB.rd_not, CB.rd_andV, CB.rd_orV, CB.rd_notV, CB.rd_if, CB.rd_chain, CB.rd_chain3,
  CB.rd_next, CB.rd_seq, CB.rd_drop, CB.rd_ret, CB.rd_retN, CB.rd_break, CB.rd_cont, CB.rd_ifS, CB.rd_asg, CB.rd_name, CB.rd_gsub, CB.rd_gtup, CB.rd_gcons, CB.rd_gnil, CB.rd_par, CB.rd_aug, CB.rd_ipI, CB.rd_nil, CB.rd_cons, CB.rd_tup, CB.rd_lst, CB.rd_CB, CB.rd_call, CB.rd_callS, CB.rd_ixL, CB.rd_ixT, CB.rd_setL, CB.rd_putS, CB.rd_forZ, CB.rd_lcZ, CB.rd_forE, CB.rd_isqrt, CB.rd_sum, CB.rd_append, CB.rd_forL, CB.rd_forT, CB.rd_forR1, CB.rd_forR2, CB.rd_forR3, CB.rd_lcL, CB.rd_lcT, CB.rd_lcR1, CB.rd_lcR2, CB.rd_yes, CB.rd_sl, CB.rd_noPart, CB.rd_part, CB.rd_slL, CB.rd_wipe0, CB.rd_rep, CB.rd_tupOf, CB.rd_lenS, CB.rd_gcd, CB.rd_wipe1, CB.rd_sorted3, CB.rd_any, CB.rd_all, CB.rd_ext, CB.rd_glst, CB.rd_sortedM, CB.rd_minD, CB.rd_indexD, CB.rd_pop, CB.rd_dnew, CB.rd_dget, CB.rd_dget2, CB.rd_dput, CB.rd_dm, CB.rd_anyI,
  L2.start, List.map_cons, List.map_nil, List.length_cons, List.length_nil, Nat.reduceAdd, Nat.reduceSub, List.replicate_succ, List.replicate_zero,
  V.int.injEq, V.ref.injEq, V.bl.injEq, V.str.injEq, Option.some.injEq, List.cons.injEq, exists_and_left, exists_eq_left', exists_eq_left, reduceCtorEq, false_and, and_false, or_false, false_or, exists_false, exists_const, and_assoc, true_and, and_true,
  CB.scal_int, CB.scal_str, CB.dec_ii, CB.ite_dec, CB.ite_ndec, List.getElem?_cons_zero, List.getElem?_cons_succ, List.set_cons_zero, List.set_cons_succ, List.append_nil, List.cons_append, List.nil_append, if_true, if_false, Bool.false_eq_true, Bool.not_true, Bool.not_false, CB.K_nox, CB.K_cxOf, eq_self])
local macro_rules | `(tactic| walk_at "rs") => `(tactic| simp (maxSteps := 2000000) only [CB.rd_var, CB.rd_C, CB.rd_op, CB.rd_un, CB.rd_I, CB.rd_I0, CB.rd_U, CB.rd_Eq, CB.rd_Ne, CB.rd_test, CB.rd_B, CB.rd_and, CB.rd_or, CB.rd_not, CB.rd_andV, CB.rd_orV, CB.rd_notV, CB.rd_if, CB.rd_chain, CB.rd_chain3,
  CB.rd_next, CB.rd_drop, CB.rd_ret, CB.rd_retN, CB.rd_break, CB.rd_cont, CB.rd_ifS, CB.rd_asg, CB.rd_name, CB.rd_gsub, CB.rd_gtup, CB.rd_gcons, CB.rd_gnil, CB.rd_par, CB.rd_aug, CB.rd_ipI, CB.rd_nil, CB.rd_cons, CB.rd_tup, CB.rd_lst, CB.rd_CB, CB.rd_call, CB.rd_callS, CB.rd_ixL, CB.rd_ixT, CB.rd_setL, CB.rd_putS, CB.rd_forZ, CB.rd_lcZ, CB.rd_forE, CB.rd_isqrt, CB.rd_sum, CB.rd_append, CB.rd_forL, CB.rd_forT, CB.rd_forR1, CB.rd_forR2, CB.rd_forR3, CB.rd_lcL, CB.rd_lcT, CB.rd_lcR1, CB.rd_lcR2, CB.rd_yes, CB.rd_sl, CB.rd_noPart, CB.rd_part, CB.rd_slL, CB.rd_wipe0, CB.rd_rep, CB.rd_tupOf, CB.rd_lenS, CB.rd_gcd, CB.rd_wipe1, CB.rd_sorted3, CB.rd_any, CB.rd_all, CB.rd_ext, CB.rd_glst, CB.rd_sortedM, CB.rd_minD, CB.rd_indexD, CB.rd_pop, CB.rd_dnew, CB.rd_dget, CB.rd_dget2, CB.rd_dput, CB.rd_dm, CB.rd_anyI,
  L2.start, List.map_cons, List.map_nil, List.length_cons, List.length_nil, Nat.reduceAdd, Nat.reduceSub, List.replicate_succ, List.replicate_zero,
  V.int.injEq, V.ref.injEq, V.bl.injEq, V.str.injEq, Option.some.injEq, List.cons.injEq, exists_and_left, exists_eq_left', exists_eq_left, reduceCtorEq, false_and, and_false, or_false, false_or, exists_false, exists_const, and_assoc, true_and, and_true,
  CB.scal_int, CB.scal_str, CB.dec_ii, CB.ite_dec, CB.ite_ndec, List.getElem?_cons_zero, List.getElem?_cons_succ, List.set_cons_zero, List.set_cons_succ, List.append_nil, List.cons_append, List.nil_append, if_true, if_false, Bool.false_eq_true, Bool.not_true, Bool.not_false, CB.K_nox, CB.K_cxOf, eq_self])

local macro_rules | `(tactic| walk_at "nx") => `(tactic| (show tSeq _ _ _ _ _; rw [CB.rd_seq]; walk_at "rs"))


section
variable {P : Program} {w : World} {K : PySem.W.Frag} {mg : Str → Option Value} {base : Heap} {CM : Addr}
abbrev s_law : Stmt := top 40
theorem sc_law : FnScope ["script", "state", "size", "f", "g", "c", "n", "short", "low", "wide", "item", "k"] ["script"] (defScope s_law) := ⟨rfl, rfl, rfl, by decide +kernel, rfl, by decide +kernel, by decide +kernel⟩

def spLaw (K : PySem.W.Frag) : Sp := fun vs H Q _ => ∃ (a : Addr) (ns : List Int), vs = [.ref a] ∧ SqL K H a (ns.map V.int) ∧ ns.length ≤ 63 ∧ ∀ H', Q (.bl true) H'
theorem pick3 {v : Int} (h0 : 0 ≤ v) (h1 : v < 3) (a b c : V) : ∃ x, atI [a, b, c] v = some x ∧ (x = a ∨ x = b ∨ x = c) := by
  have c : v = 0 ∨ v = 1 ∨ v = 2 := by omega
  rcases c with rfl | rfl | rfl
  · exact ⟨_, rfl, .inl rfl⟩
  · exact ⟨_, rfl, .inr (.inl rfl)⟩
  · exact ⟨_, rfl, .inr (.inr rfl)⟩
def Tp (H : Hp) (p : Addr) (ns : List Int) : Prop := H p = some (.tup (ns.map V.int))
theorem ser_good {H : Hp} {p : Addr} {ns : List Int} {Q : VK} {E : Value → Option Addr → Hp → Prop} (h : Tp H p ns) (n1 : 1 ≤ ns.length) (n2 : ns.length ≤ 400) (q : ∀ H', Same H H' → Q (.bl true) H') : spIsSer K [.ref p] H Q E := by
  refine ⟨_, rfl, .inr ⟨p, _, _, rfl, h, its_ints ns, by rw [List.length_map]; omega, fun H' s => ?_⟩⟩
  have e : serB (ns.map V.int).length (ns.map fun _ => "int") = true := by
    unfold serB
    rw [List.length_map, decide_eq_true ⟨n1, n2⟩, Bool.true_and, List.all_eq_true]
    intro t ht
    obtain ⟨_, _, rfl⟩ := List.mem_map.mp ht
    rfl
  rw [e]
  exact q H' s
theorem plain_eq {H : Hp} {p d : Addr} {xs : List Int} {Q : VK} {E : Value → Option Addr → Hp → Prop} (hp : Tp H p xs) (hd : Tp H d xs) (hl : xs.length ≤ 400) (q : ∀ H', Same H H' → Q (.bl true) H') : spEq1 [.ref p, .ref d] H Q E :=
  ⟨p, d, xs, xs, rfl, hp, hd, by omega, fun H' s => by rw [decide_eq_true rfl]; exact q H' s⟩
theorem raise_eq {H : Hp} {p r : Addr} {xs : List Int} {n b : Nat} {Q : VK} {E E1 : Value → Option Addr → Hp → Prop} (hp : Tp H p xs) (hr : Tp H r (powL xs n)) (n1 : 1 ≤ xs.length) (n2 : xs.length ≤ 400) (hn : n ≤ 1000) (hb : nm (sr xs) xs.length ≤ b) (b1 : 1 ≤ b) (hB : b ^ n < 2 ^ 100000)
    (k : ∀ H', Same H H' → Q (.bl true) H') : spRaise [.ref p, .int n] H (fun x H1 => spEq1 [.ref r, x] H1 Q E1) E :=
  ⟨p, xs, n, b, rfl, hn, hp, n1, n2, hb, b1, hB, fun r2 G s hr2 => plain_eq (s _ _ hr) hr2 (by unfold powL; rw [mk_len]; exact n2) fun G2 s2 => k G2 (s.trans s2)⟩
theorem cut12 {xs : List V} (h : 1 ≤ xs.length) : cutV xs (some 1) (some 2) = (xs.drop 1).take 1 := by
  unfold cutV
  rw [show HT.sIx xs.length 0 (some 1) = min 1 xs.length from HT.sIx_nat _ _ 1, show HT.sIx xs.length xs.length (some 2) = min 2 xs.length from HT.sIx_nat _ _ 2, Nat.min_eq_left h]
  rcases Nat.lt_or_ge xs.length 2 with c | c
  · rw [Nat.min_eq_right (by omega), show xs.length - 1 = 0 by omega, List.take_zero, List.drop_of_length_le (by omega), List.take_nil]
  · rw [Nat.min_eq_left c]
theorem shL_take {fs : List Int} {m : Nat} : cutV (List.replicate m (V.int 0) ++ fs.map V.int) none (some (fs.length : Int)) = (shL fs m).map V.int := by
  unfold cutV shL
  rw [show HT.sIx (List.replicate m (V.int 0) ++ fs.map V.int).length (List.replicate m (V.int 0) ++ fs.map V.int).length (some (fs.length : Int)) = min fs.length (List.replicate m (V.int 0) ++ fs.map V.int).length from HT.sIx_nat _ _ _, HT.sIx_none, List.drop_zero, Nat.sub_zero]
  rw [List.length_append, List.length_replicate, List.length_map, Nat.min_eq_left (by omega), List.take_append, List.length_replicate, List.take_replicate, List.map_append, List.map_replicate, List.map_take, Nat.min_comm]
  congr 2
  omega
def lowI (x : Int) : Int := if (if x < 9 then x else 9) > -9 then (if x < 9 then x else 9) else -9
theorem lowI_le (x : Int) : (lowI x).natAbs ≤ 9 := by
  unfold lowI
  split <;> split <;> omega
def St (H : Hp) (st : Addr) : Prop := ∃ x y : Int, H st = some (.lst [.int x, .int y])
theorem St.same {H H' : Hp} {st : Addr} (h : St H st) (s : Same H H') : St H' st := by
  obtain ⟨x, y, h⟩ := h
  exact ⟨x, y, s _ _ h⟩
theorem take_st {H : Hp} {st : Addr} {m : Int} {Q : VK} {E : Value → Option Addr → Hp → Prop} (h : St H st) (m0 : 0 < m) (m1 : m.natAbs ≤ 1000000000000000000000000) (q : ∀ v H', But st H H' → St H' st → 0 ≤ v → v < m → Q (.int v) H') : spTake [.ref st, .int m] H Q E := by
  obtain ⟨x, y, h⟩ := h
  exact ⟨st, x, y, m, rfl, h, m0, lg_int m1, fun v x' y' v0 v1 => q v _ (But.refl.upd) ⟨x', y', upd_same⟩ v0 v1⟩
theorem Tp.same {H H' : Hp} {p : Addr} {ns : List Int} (h : Tp H p ns) (s : Same H H') : Tp H' p ns := s _ _ h
theorem Tp.but {H H' : Hp} {p st : Addr} {ns : List Int} (h : Tp H p ns) (b : But st H H') (s : St H st) : Tp H' p ns := by
  obtain ⟨x, y, hs⟩ := s
  exact b _ _ (ne_of h hs (by intro z; cases z)) h
theorem ok_law {f : Addr} {fd : FuncData} (F : Fun K "law" "law" s_law f fd) (B : Bl mg)
    (c__law_state : Cal P w K mg base "_law_state" 1 ["script"] (spState K)) (c__law_take : Cal P w K mg base "_law_take" 1 ["state", "m"] spTake)
    (c__law_series : Cal P w K mg base "_law_series" 2 ["state", "size"] spSeries) (c_plus : CalX P w K mg base "plus" 6 ["f", "g"] (spPlus K CM)) (c_times : CalX P w K mg base "times" 6 ["f", "g"] (spTimes K CM))
    (c_multiple : CalX P w K mg base "multiple" 5 ["f", "c"] (spMult K CM)) (c_power : CalX P w K mg base "power" 5 ["f", "n"] (spPower K CM)) (c_shifted : CalX P w K mg base "shifted" 5 ["f", "n"] (spShift K CM))
    (c_is_series : Cal P w K mg base "is_series" 3 ["value"] (spIsSer K)) (c__law_plain : Cal P w K mg base "_law_plain" 4 ["value"] spPl1) (c__law_is_equal : Cal P w K mg base "_law_is_equal" 3 ["value", "due"] spEq1)
    (c__law_joined : Cal P w K mg base "_law_joined" 1 ["f", "g"] spJoin) (c__law_raised : Cal P w K mg base "_law_raised" 2 ["f", "n"] spRaise) (c_unit_series : Cal P w K mg base "unit_series" 1 ["size"] spUnit)
    (c_euler_product : Cal P w K mg base "euler_product" 3 ["size", "n"] spEp) (c__law_euler : Cal P w K mg base "_law_euler" 1 ["size", "n"] spEul) (c__law_sparse : Cal P w K mg base "_law_sparse" 1 ["size", "n"] spSparse)
    (c__law_values_hold : Cal P w K mg base "_law_values_hold" 8 ["state", "f"] spVals) :
    FnOk P w K mg base CX0 9 f fd ["script"] (spLaw K) := by
  refine F.ok sc_law (fun vs H Q E h => by obtain ⟨a, ns, rfl, _⟩ := h; rfl) (fun cdv A outer s H vs Q E hr h => ?_)
  obtain ⟨a, ns, rfl, ha, hl, q⟩ := h
  refine ⟨_, (pss_cons (ps_set (i := 1) sc_law.nd rfl (Or.inl rfl) (pe_cal c__law_state (hr.mono (by decide)) rfl (pa_cons (pv 0) pa_nil)))
  (pss_cons (ps_set (i := 2) sc_law.nd rfl (Or.inl rfl) (pe_ix ix_list (pe_lst (pa_cons (pe_op op_add pe_int (pe_cal c__law_take (hr.mono (by decide)) rfl (pa_cons (pv 1) (pa_cons pe_int pa_nil)))) (pa_cons (pe_op op_add pe_int (pe_cal c__law_take (hr.mono (by decide)) rfl (pa_cons (pv 1) (pa_cons pe_int pa_nil)))) (pa_cons pe_int pa_nil)))) (pe_ix ix_list (pe_lst (pa_cons pe_int (pa_cons pe_int (pa_cons pe_int (pa_cons pe_int (pa_cons pe_int (pa_cons pe_int pa_nil))))))) (pe_cal c__law_take (hr.mono (by decide)) rfl (pa_cons (pv 1) (pa_cons pe_int pa_nil))) (fun _ _ => rfl)) (fun _ _ => rfl)))
  (pss_cons (ps_asg (pe_tup (pa_cons (pe_cal c__law_series (hr.mono (by decide)) rfl (pa_cons (pv 1) (pa_cons (pv 2) pa_nil))) (pa_cons (pe_cal c__law_series (hr.mono (by decide)) rfl (pa_cons (pv 1) (pa_cons (pv 2) pa_nil))) (pa_cons (pe_op op_sub (pe_cal c__law_take (hr.mono (by decide)) rfl (pa_cons (pv 1) (pa_cons pe_int pa_nil))) pe_int) pa_nil)))) (pg_tup (n := 3) rfl (pgs_cons (pg_name (i := 3) sc_law.nd rfl (Or.inr rfl)) (pgs_cons (pg_name (i := 4) sc_law.nd rfl (Or.inr rfl)) (pgs_cons (pg_name (i := 5) sc_law.nd rfl (Or.inr rfl)) pgs_nil)))))
  (pss_cons (ps_if (PW.pt (pw_or (pt_cmpR op_notBl (pe_cal c_is_series (hr.mono (by decide)) rfl (pa_cons (pv 3) pa_nil)) pe_bl (nomark _)) (pw_or1 (pt_not (pt_val (pe_cal c__law_is_equal (hr.mono (by decide)) rfl (pa_cons (pe_cal c__law_plain (hr.mono (by decide)) rfl (pa_cons (pe_calS c_plus takes0 (hr.mono (by decide)) rfl (pa_cons (pv 3) (pa_cons (pv 4) pa_nil))) pa_nil)) (pa_cons (pe_callTy cr_tupOf rfl B.tuple boot_tuple (pa_cons (pe_lc (own := [("k", 11)]) rfl sc_law.nd (pi_range1 rfl B.range (pa_cons (pv 2) pa_nil)) (blkOk_by (N := ["script", "state", "size", "f", "g", "c", "n", "short", "low", "wide", "item", "k"]) (sc := defScope s_law) (own := [("k", 11)]) (by decide +kernel)) (fun _ _ _ _ _ => (pg_name (i := 11) sc_law.nd rfl (Or.inl rfl))) (fun _ _ _ _ _ => pts_nil) (fun _ _ _ _ _ => (pe_op op_add (pe_ix (ix_tupK (K := K) rfl) (pv 3) (pv 11) (fun _ _ => rfl)) (pe_ix (ix_tupK (K := K) rfl) (pv 4) (pv 11) (fun _ _ => rfl))))) pa_nil)) pa_nil)))))))) (pss_one (ps_ret pe_bl)) pss_nil)
  (pss_cons (ps_if (PW.pt (pw_or (pt_not (pt_val (pe_cal c__law_is_equal (hr.mono (by decide)) rfl (pa_cons (pe_cal c__law_plain (hr.mono (by decide)) rfl (pa_cons (pe_calS c_times takes0 (hr.mono (by decide)) rfl (pa_cons (pv 3) (pa_cons (pv 4) pa_nil))) pa_nil)) (pa_cons (pe_cal c__law_joined (hr.mono (by decide)) rfl (pa_cons (pv 3) (pa_cons (pv 4) pa_nil))) pa_nil))))) (pw_or1 (pt_not (pt_val (pe_cal c__law_is_equal (hr.mono (by decide)) rfl (pa_cons (pe_cal c__law_plain (hr.mono (by decide)) rfl (pa_cons (pe_calS c_multiple takes0 (hr.mono (by decide)) rfl (pa_cons (pv 3) (pa_cons (pv 5) pa_nil))) pa_nil)) (pa_cons (pe_callTy cr_tupOf rfl B.tuple boot_tuple (pa_cons (pe_lc (own := [("item", 10)]) rfl sc_law.nd (pi_tup (pv 3)) (blkOk_by (N := ["script", "state", "size", "f", "g", "c", "n", "short", "low", "wide", "item", "k"]) (sc := defScope s_law) (own := [("item", 10)]) (by decide +kernel)) (fun _ _ _ _ _ => (pg_name (i := 10) sc_law.nd rfl (Or.inl rfl))) (fun _ _ _ _ _ => pts_nil) (fun _ _ _ _ _ => (pe_op op_mulI (pv 5) (pv 10)))) pa_nil)) pa_nil)))))))) (pss_one (ps_ret pe_bl)) pss_nil)
  (pss_cons (ps_set (i := 6) sc_law.nd rfl (Or.inl rfl) (pe_cal c__law_take (hr.mono (by decide)) rfl (pa_cons (pv 1) (pa_cons pe_int pa_nil))))
  (pss_cons (ps_if (PW.pt (pw_or (pt_not (pt_val (pe_cal c__law_is_equal (hr.mono (by decide)) rfl (pa_cons (pe_cal c__law_plain (hr.mono (by decide)) rfl (pa_cons (pe_calS c_power takes0 (hr.mono (by decide)) rfl (pa_cons (pv 3) (pa_cons (pv 6) pa_nil))) pa_nil)) (pa_cons (pe_cal c__law_raised (hr.mono (by decide)) rfl (pa_cons (pv 3) (pa_cons (pv 6) pa_nil))) pa_nil))))) (pw_or1 (pt_not (pt_val (pe_cal c__law_is_equal (hr.mono (by decide)) rfl (pa_cons (pe_cal c__law_plain (hr.mono (by decide)) rfl (pa_cons (pe_calS c_power takes0 (hr.mono (by decide)) rfl (pa_cons (pe_op op_catA (pe_tup (pa_cons (pe_op op_fdivW (pe_ix ix_tup (pv 3) pe_int (fun _ _ => rfl)) (pe_op op_powI pe_int pe_int)) pa_nil)) (pe_slice sl_tupA (pv 3) (po_some pe_int) (po_some pe_int))) (pa_cons pe_int pa_nil))) pa_nil)) (pa_cons (pe_cal c__law_raised (hr.mono (by decide)) rfl (pa_cons (pe_op op_catA (pe_tup (pa_cons (pe_op op_fdivW (pe_ix ix_tup (pv 3) pe_int (fun _ _ => rfl)) (pe_op op_powI pe_int pe_int)) pa_nil)) (pe_slice sl_tupA (pv 3) (po_some pe_int) (po_some pe_int))) (pa_cons pe_int pa_nil))) pa_nil)))))))) (pss_one (ps_ret pe_bl)) pss_nil)
  (pss_cons (ps_set (i := 6) sc_law.nd rfl (Or.inl rfl) (pe_ix ix_list (pe_lst (pa_cons pe_int (pa_cons pe_int (pa_cons (pe_cal c__law_take (hr.mono (by decide)) rfl (pa_cons (pv 1) (pa_cons (pe_op op_add (pv 2) pe_int) pa_nil))) (pa_cons pe_int pa_nil))))) (pe_cal c__law_take (hr.mono (by decide)) rfl (pa_cons (pv 1) (pa_cons pe_int pa_nil))) (fun _ _ => rfl)))
  (pss_cons (ps_if (PW.pt (pw_or (pt_not (pt_val (pe_cal c__law_is_equal (hr.mono (by decide)) rfl (pa_cons (pe_cal c__law_plain (hr.mono (by decide)) rfl (pa_cons (pe_calS c_shifted takes0 (hr.mono (by decide)) rfl (pa_cons (pv 3) (pa_cons (pv 6) pa_nil))) pa_nil)) (pa_cons (pe_slice sl_tupA (pe_op op_catA (pe_op op_repA (pe_tup (pa_cons pe_int pa_nil)) (pv 6)) (pv 3)) po_none (po_some (pv 2))) pa_nil))))) (pw_or1 (pt_not (pt_val (pe_cal c__law_is_equal (hr.mono (by decide)) rfl (pa_cons (pe_cal c__law_plain (hr.mono (by decide)) rfl (pa_cons (pe_cal c_unit_series (hr.mono (by decide)) rfl (pa_cons (pv 2) pa_nil)) pa_nil)) (pa_cons (pe_op op_catA (pe_tup (pa_cons pe_int pa_nil)) (pe_op op_repA (pe_tup (pa_cons pe_int pa_nil)) (pe_op op_sub (pv 2) pe_int))) pa_nil)))))))) (pss_one (ps_ret pe_bl)) pss_nil)
  (pss_cons (ps_par (i := 7) (j := 6) rfl sc_law.nd rfl rfl (by decide) rfl rfl (pa_cons (pe_op op_add pe_int (pe_cal c__law_take (hr.mono (by decide)) rfl (pa_cons (pv 1) (pa_cons pe_int pa_nil)))) (pa_cons (pe_ix ix_list (pe_lst (pa_cons pe_int (pa_cons pe_int (pa_cons pe_int (pa_cons pe_int (pa_cons (pe_cal c__law_take (hr.mono (by decide)) rfl (pa_cons (pv 1) (pa_cons pe_int pa_nil))) pa_nil)))))) (pe_cal c__law_take (hr.mono (by decide)) rfl (pa_cons (pv 1) (pa_cons pe_int pa_nil))) (fun _ _ => rfl)) pa_nil)) (by rfl))
  (pss_cons (ps_if (pt_not (pt_val (pe_cal c__law_is_equal (hr.mono (by decide)) rfl (pa_cons (pe_cal c__law_plain (hr.mono (by decide)) rfl (pa_cons (pe_cal c_euler_product (hr.mono (by decide)) rfl (pa_cons (pv 7) (pa_cons (pv 6) pa_nil))) pa_nil)) (pa_cons (pe_cal c__law_euler (hr.mono (by decide)) rfl (pa_cons (pv 7) (pa_cons (pv 6) pa_nil))) pa_nil))))) (pss_one (ps_ret pe_bl)) pss_nil)
  (pss_cons (ps_par (i := 8) (j := 6) rfl sc_law.nd rfl rfl (by decide) rfl rfl (pa_cons (pe_callTy cr_tupOf rfl B.tuple boot_tuple (pa_cons (pe_lc (own := [("item", 10)]) rfl sc_law.nd (pi_tup (pe_slice sl_tupA (pv 3) po_none (po_some (pe_op op_add pe_int (pe_cal c__law_take (hr.mono (by decide)) rfl (pa_cons (pv 1) (pa_cons pe_int pa_nil))))))) (blkOk_by (N := ["script", "state", "size", "f", "g", "c", "n", "short", "low", "wide", "item", "k"]) (sc := defScope s_law) (own := [("item", 10)]) (by decide +kernel)) (fun _ _ _ _ _ => (pg_name (i := 10) sc_law.nd rfl (Or.inl rfl))) (fun _ _ _ _ _ => pts_nil) (fun _ _ _ _ _ => (pe_callB (call_max2 rfl) rfl B.max (by decide +kernel) (pa_cons (pe_un un_neg pe_int) (pa_cons (pe_callB (call_min2 rfl) rfl B.min (by decide +kernel) (pa_cons pe_int (pa_cons (pv 10) pa_nil))) pa_nil))))) pa_nil)) (pa_cons (pe_cal c__law_take (hr.mono (by decide)) rfl (pa_cons (pv 1) (pa_cons pe_int pa_nil))) pa_nil)) (by rfl))
  (pss_cons (ps_if (pt_not (pt_val (pe_cal c__law_is_equal (hr.mono (by decide)) rfl (pa_cons (pe_cal c__law_plain (hr.mono (by decide)) rfl (pa_cons (pe_calS c_power takes0 (hr.mono (by decide)) rfl (pa_cons (pv 8) (pa_cons (pv 6) pa_nil))) pa_nil)) (pa_cons (pe_cal c__law_raised (hr.mono (by decide)) rfl (pa_cons (pv 8) (pa_cons (pv 6) pa_nil))) pa_nil))))) (pss_one (ps_ret pe_bl)) pss_nil)
  (pss_cons (ps_par (i := 9) (j := 6) rfl sc_law.nd rfl rfl (by decide) rfl rfl (pa_cons (pe_ix ix_list (pe_lst (pa_cons pe_int (pa_cons pe_int (pa_cons pe_int pa_nil)))) (pe_cal c__law_take (hr.mono (by decide)) rfl (pa_cons (pv 1) (pa_cons pe_int pa_nil))) (fun _ _ => rfl)) (pa_cons (pe_ix ix_list (pe_lst (pa_cons pe_int (pa_cons pe_int (pa_cons pe_int pa_nil)))) (pe_cal c__law_take (hr.mono (by decide)) rfl (pa_cons (pv 1) (pa_cons pe_int pa_nil))) (fun _ _ => rfl)) pa_nil)) (by rfl))
  (pss_cons (ps_if (pt_not (pt_val (pe_cal c__law_is_equal (hr.mono (by decide)) rfl (pa_cons (pe_cal c__law_plain (hr.mono (by decide)) rfl (pa_cons (pe_cal c_euler_product (hr.mono (by decide)) rfl (pa_cons (pv 9) (pa_cons (pv 6) pa_nil))) pa_nil)) (pa_cons (pe_cal c__law_sparse (hr.mono (by decide)) rfl (pa_cons (pv 9) (pa_cons (pv 6) pa_nil))) pa_nil))))) (pss_one (ps_ret pe_bl)) pss_nil)
  (pss_one (ps_ret (pe_cal c__law_values_hold (hr.mono (by decide)) rfl (pa_cons (pv 1) (pa_cons (pe_slice sl_tupA (pv 3) po_none (po_some pe_int)) pa_nil)))))))))))))))))))), ?_⟩
  refine seq_cut (fun σ H1 => ∃ st, σ = [some (.ref a), some (.ref st), none, none, none, none, none, none, none, none, none, none] ∧ St H1 st) (fun R hR => ?_) ?_
  · walk_at "rs"
    exact ⟨a, ns, rfl, ha, hl, fun st x y H1 s1 n1 h1 => hR _ _ ⟨st, rfl, x, y, h1⟩⟩
  rintro σ H1 ⟨st, rfl, hs1⟩
  clear ha
  refine seq_cut (fun σ H2 => ∃ N : Nat, σ = [some (.ref a), some (.ref st), some (.int N), none, none, none, none, none, none, none, none, none] ∧ St H2 st ∧ 1 ≤ N ∧ N ≤ 400) (fun R hR => ?_) ?_
  · walk_at "rs"
    refine take_st hs1 (by decide) (by decide) fun v1 G1 _ t1 v10 v11 => ⟨v1, rfl, take_st t1 (by decide) (by decide) fun v2 G2 _ t2 v20 v21 => ⟨v2, rfl, by decide, fun l1 nl1 => ⟨by decide, fun l2 nl2 => ?_⟩⟩⟩
    have t3 := (t2.same (same_upd nl1)).same (same_upd (o := HO.lst [V.int 0, V.int 0, V.int 1, V.int 1, V.int 1, V.int 2]) nl2)
    have h1 := same_upd (o := HO.lst [V.int 0, V.int 0, V.int 1, V.int 1, V.int 1, V.int 2]) nl2 _ _ (upd_same (H := G2) (a := l1) (o := HO.lst [V.int (1 + v1), V.int (1 + v2), V.int 400]))
    have h2 : (upd (upd G2 l1 (.lst [V.int (1 + v1), V.int (1 + v2), V.int 400])) l2 (.lst [V.int 0, V.int 0, V.int 1, V.int 1, V.int 1, V.int 2])) l2 = some (.lst [V.int 0, V.int 0, V.int 1, V.int 1, V.int 1, V.int 2]) := upd_same
    have e1 : l1 ≠ st := fun e => by obtain ⟨x, y, h⟩ := t2; rw [e, h] at nl1; cases nl1
    have e2 : l2 ≠ st := fun e => by obtain ⟨x, y, h⟩ := t2.same (same_upd (o := HO.lst [V.int (1 + v1), V.int (1 + v2), V.int 400]) nl1); rw [e, h] at nl2; cases nl2
    generalize upd (upd G2 l1 (.lst [V.int (1 + v1), V.int (1 + v2), V.int 400])) l2 (.lst [V.int 0, V.int 0, V.int 1, V.int 1, V.int 1, V.int 2]) = G3 at *
    refine take_st t3 (by decide) (by decide) fun v3 G4 b4 t4 v30 v31 => ?_
    have c3 : v3 = 0 ∨ v3 = 1 ∨ v3 = 2 ∨ v3 = 3 ∨ v3 = 4 ∨ v3 = 5 := by omega
    obtain ⟨w3, a3, w3b⟩ : ∃ w3 : Int, atI [V.int 0, V.int 0, V.int 1, V.int 1, V.int 1, V.int 2] v3 = some (.int w3) ∧ (0 ≤ w3 ∧ w3 < 3) := by
      rcases c3 with rfl | rfl | rfl | rfl | rfl | rfl <;> exact ⟨_, rfl, by decide⟩
    obtain ⟨x5, a5, hx5⟩ := pick3 w3b.1 w3b.2 (V.int (1 + v1)) (V.int (1 + v2)) (V.int 400)
    refine ⟨_, v3, rfl, SqL.of (b4 _ _ e2 h2), _, a3, _, w3, rfl, SqL.of (b4 _ _ e1 h1), x5, a5, ?_⟩
    rcases hx5 with rfl | rfl | rfl
    · exact hR _ _ ⟨(1 + v1).toNat, by rw [Int.toNat_of_nonneg (by omega)], t4, by omega, by omega⟩
    · exact hR _ _ ⟨(1 + v2).toNat, by rw [Int.toNat_of_nonneg (by omega)], t4, by omega, by omega⟩
    · exact hR _ _ ⟨400, rfl, t4, by decide, by decide⟩
  rintro σ H2 ⟨N, rfl, hs2, n1, n400⟩
  clear hs1
  refine seq_cut (fun σ H3 => ∃ (pf pg : Addr) (fs gs : List Int) (c : Int), σ = [some (.ref a), some (.ref st), some (.int N), some (.ref pf), some (.ref pg), some (.int c), none, none, none, none, none, none] ∧ St H3 st ∧ Tp H3 pf fs ∧ Tp H3 pg gs ∧ fs.length = N ∧ gs.length = N ∧ (∀ n ∈ fs, n.natAbs ≤ 1000000000000000) ∧ (∀ n ∈ gs, n.natAbs ≤ 1000000000000000) ∧ c.natAbs ≤ 1000) (fun R hR => ?_) ?_
  · walk_at "rs"
    obtain ⟨x0, y0, h0⟩ := hs2
    refine ⟨st, x0, y0, N, rfl, h0, n400, fun pf G1 fs x1 y1 b1 h1 hf1 lf1 bf1 => ⟨st, x1, y1, N, rfl, h1, n400, fun pg G2 gs x2 y2 b2 h2 hg2 lg2 bg2 => take_st ⟨x2, y2, h2⟩ (by decide) (by decide) fun v G3 b3 t3 v0 v1 => ⟨v, rfl, by decide, fun p np => ⟨_, SqT.of upd_same, rfl, ?_⟩⟩⟩⟩
    have f3 : Tp G3 pf fs := Tp.but (Tp.but hf1 b2 ⟨x1, y1, h1⟩) b3 ⟨x2, y2, h2⟩
    have g3 : Tp G3 pg gs := Tp.but hg2 b3 ⟨x2, y2, h2⟩
    exact ⟨_, _, rfl, _, _, rfl, _, _, rfl, rfl, hR _ _ ⟨pf, pg, fs, gs, v - 1000, rfl, t3.same (same_upd np), f3.same (same_upd np), g3.same (same_upd np), lf1, lg2, bf1, bg2, by omega⟩⟩
  rintro σ H3 ⟨pf, pg, fs, gs, c, rfl, hs3, hf, hg, lf, lg, bf, bg, bc⟩
  clear hs2
  have gf : ∀ G, Tp G pf fs → GoodS G (.ref pf) fs := fun G h => ⟨pf, rfl, h, by omega, by omega⟩
  have gg : ∀ G, Tp G pg gs → GoodS G (.ref pg) gs := fun G h => ⟨pg, rfl, h, by omega, by omega⟩
  refine seq_cut (fun σ H4 => σ = [some (.ref a), some (.ref st), some (.int N), some (.ref pf), some (.ref pg), some (.int c), none, none, none, none, none, none] ∧ Same H3 H4) (fun R hR => ?_) ?_
  · walk_at "rs"
    refine ser_good hf (by omega) (by omega) fun G1 s1 => ⟨true, true, rfl, rfl, _, rfl, ?_⟩
    rw [if_neg (by decide)]
    refine ⟨_, _, rfl, .inr (.inr (.inr ⟨fs, gs, gf _ (hf.same s1), gg _ (hg.same s1), by omega, fun r G2 s2 hr2 => ?_⟩))⟩
    refine ⟨r, addL fs gs, rfl, hr2, by unfold addL; rw [mk_len]; omega, fun G3 s3 => ⟨by omega, by omega, ?_⟩⟩
    have u3 := (s1.trans s2).trans s3
    rw [Int.toNat_natCast]
    refine LcR.p (fun k => some (V.int (sr fs k + sr gs k))) (by omega) ?_ ?_
    · intro k hk G4 s5 M S hM hS
      rw [Int.zero_add]
      walk_at "rd"
      exact ⟨_, SqT.of (s5 _ _ (u3 _ _ hf)), _, sr_at (by omega), _, SqT.of (s5 _ _ (u3 _ _ hg)), _, sr_at (by omega), _, rfl, _, rfl, hM _ _ rfl (Same.refl _)⟩
    · intro D5 G5 nD5 s5 hD5
      rw [fm_some (fun k => V.int (sr fs k + sr gs k))] at hD5
      refine ⟨D5, rfl, tup_end (Q := fun v G => spEq1 [.ref r, v] G _ E0) hD5 fun d nd => ?_⟩
      refine plain_eq (xs := addL fs gs) (((s3.trans s5).trans (same_upd nd)) _ _ hr2) ?_ (by unfold addL; rw [mk_len]; omega) fun G6 s6 => ⟨true, rfl, ?_⟩
      · show _ = some (HO.tup ((addL fs gs).map V.int))
        rw [upd_same]
        unfold addL mk
        rw [List.map_map, lf]
        rfl
      · rw [if_neg (by decide)]
        exact hR _ _ ⟨rfl, ((u3.trans s5).trans (same_upd nd)).trans s6⟩
  rintro σ H4 ⟨rfl, s4⟩
  replace hs3 := hs3.same s4
  replace hf := hf.same s4
  replace hg := hg.same s4
  clear s4 H3
  have big : (400000000000000000 : Nat) < 2 ^ 200000 := Nat.lt_of_lt_of_le (show 400000000000000000 < 2 ^ 64 by decide) (Nat.pow_le_pow_right (by decide) (by decide))
  have nF : nm (sr fs) fs.length ≤ 400000000000000000 := Nat.le_trans (nm_list bf) (by omega)
  have nG : nm (sr gs) gs.length ≤ 400000000000000000 := Nat.le_trans (nm_list bg) (by omega)
  refine seq_cut (fun σ H5 => σ = [some (.ref a), some (.ref st), some (.int N), some (.ref pf), some (.ref pg), some (.int c), none, none, none, none, none, none] ∧ Same H4 H5) (fun R hR => ?_) ?_
  · walk_at "rs"
    refine ⟨_, _, rfl, .inr (.inr (.inr ⟨fs, gs, gf _ hf, gg _ hg, by omega, Nat.lt_of_le_of_lt nF big, by rw [lf, ← lg]; exact Nat.lt_of_le_of_lt nG big, fun r G2 s2 hr2 => ?_⟩))⟩
    refine ⟨r, mulS fs gs, rfl, hr2, by unfold mulS; rw [mk_len]; omega, fun G3 s3 => ?_⟩
    have u3 := s2.trans s3
    refine ⟨pf, pg, fs, gs, rfl, u3 _ _ hf, u3 _ _ hg, by omega, by omega, Nat.lt_of_le_of_lt nF big, by rw [lf, ← lg]; exact Nat.lt_of_le_of_lt nG big, fun d G4 s4 hd => ?_⟩
    refine plain_eq ((s3.trans s4) _ _ hr2) hd (by unfold mulS; rw [mk_len]; omega) fun G5 s5 => ⟨true, rfl, ?_⟩
    rw [if_neg (by decide)]
    have u5 := (u3.trans s4).trans s5
    have okc : ∀ x ∈ fs, IntMulOk c x := fun x hx => mulL (by omega)
    refine ⟨_, c, rfl, .inr ⟨fs, gf _ (u5 _ _ hf), okc, fun r2 G6 s6 hr6 => ?_⟩⟩
    refine ⟨r2, _, rfl, hr6, by rw [List.length_map]; omega, fun G7 s7 => ?_⟩
    have u7 := (u5.trans s6).trans s7
    have hf7 := u7 _ _ hf
    refine ⟨⟨_, SqT.of hf7⟩, LcT.p (xs := fs.map V.int) (fun i => (fs[i]?).map fun x => V.int (c * x)) (by rw [List.length_map]; omega) (fun G8 s8 => SqT.of (s8 _ _ hf7)) ?_ ?_⟩
    · intro i x hx G8 s8 M S hM hS
      obtain ⟨b, rfl, hb⟩ := ints_at hx
      walk_at "rd"
      refine ⟨okc b (List.mem_of_getElem? hb), hM _ _ ?_ (Same.refl _)⟩
      rw [hb]
      rfl
    · intro D8 G8 nD8 s8 hD8
      have e : (List.range (fs.map V.int).length).filterMap (fun i => (fs[i]?).map fun x => V.int (c * x)) = (fs.map fun x => c * x).map V.int := by
        rw [List.length_map]
        have := fm_get fs (fun x => some (V.int (c * x)))
        rw [List.filterMap_eq_map'] at this
        rw [List.map_map]
        refine Eq.trans (congrArg (fun g => List.filterMap g (List.range fs.length)) (funext fun i => ?_)) this
        cases fs[i]? <;> rfl
      rw [e] at hD8
      refine ⟨D8, rfl, tup_end (Q := fun v G => spEq1 [.ref r2, v] G _ E0) hD8 fun d nd => ?_⟩
      refine plain_eq (((s7.trans s8).trans (same_upd nd)) _ _ hr6) upd_same (by rw [List.length_map]; omega) fun G9 s9 => ⟨true, rfl, ?_⟩
      rw [if_neg (by decide)]
      exact hR _ _ ⟨rfl, ((u7.trans s8).trans (same_upd nd)).trans s9⟩
  rintro σ H5 ⟨rfl, s5⟩
  replace hs3 := hs3.same s5
  replace hf := hf.same s5
  replace hg := hg.same s5
  clear s5 H4
  refine seq_cut (fun σ H6 => ∃ n : Nat, σ = [some (.ref a), some (.ref st), some (.int N), some (.ref pf), some (.ref pg), some (.int c), some (.int n), none, none, none, none, none] ∧ St H6 st ∧ Tp H6 pf fs ∧ n < 5) (fun R hR => ?_) ?_
  · walk_at "rs"
    refine take_st hs3 (by decide) (by decide) fun v G b t v0 v1 => hR _ _ ⟨v.toNat, by rw [Int.toNat_of_nonneg v0], t, hf.but b hs3, by omega⟩
  clear hs3 hf hg gg
  rintro σ H6 ⟨n, rfl, hs, hf, n5⟩
  refine seq_cut (fun σ H7 => σ = [some (.ref a), some (.ref st), some (.int N), some (.ref pf), some (.ref pg), some (.int c), some (.int n), none, none, none, none, none] ∧ Same H6 H7) (fun R hR => ?_) ?_
  · walk_at "rs"
    have B5 : (400000000000000000 : Nat) ^ n < 2 ^ 100000 := by
      have a1 : (400000000000000000 : Nat) ^ n ≤ 400000000000000000 ^ 5 := Nat.pow_le_pow_right (by decide) (by omega)
      have a2 : (400000000000000000 : Nat) ^ 5 < 2 ^ 320 := by decide
      exact Nat.lt_of_le_of_lt a1 (Nat.lt_of_lt_of_le a2 (Nat.pow_le_pow_right (by decide) (by decide)))
    refine ⟨_, n, rfl, .inr ⟨fs, _, gf _ hf, nF, by decide, B5, fun r G1 s1 hr1 => ⟨r, powL fs n, rfl, hr1, by unfold powL; rw [mk_len]; omega, fun G2 s2 => ?_⟩⟩⟩
    refine raise_eq (b := 400000000000000000) ((s1.trans s2) _ _ hf) (s2 _ _ hr1) (by omega) (by omega) (by omega) nF (by decide) B5 fun G3 s3 => ⟨true, rfl, ?_⟩
    rw [if_neg (by decide)]
    have u3 := (s1.trans s2).trans s3
    have e9 : (10 : Int) ^ Int.toNat 9 = 1000000000 := by decide
    rw [e9]
    have a0 : atI (fs.map V.int) 0 = some (.int (sr fs 0)) := sr_at (k := 0) (by omega)
    have b0 : (sr fs 0).natAbs ≤ 1000000000000000 := bf _ (by
      unfold sr
      rw [List.getD_eq_getElem?_getD, List.getElem?_eq_getElem (show 0 < fs.length by omega)]
      exact List.getElem_mem _)
    generalize sr fs 0 = z0 at *
    have lsb : ∀ x ∈ z0 / 1000000000 :: (fs.drop 1).take 1, x.natAbs ≤ 1000000000000000 := fun x hx => by
      rcases List.mem_cons.mp hx with e | e
      · omega
      · exact bf x (List.mem_of_mem_drop (List.mem_of_mem_take e))
    have lsl : (z0 / 1000000000 :: (fs.drop 1).take 1).length ≤ 2 := by
      rw [List.length_cons, List.length_take]
      omega
    have ls1 : 1 ≤ (z0 / 1000000000 :: (fs.drop 1).take 1).length := by rw [List.length_cons]; omega
    have mkl : ∀ (G : Hp) (Q' : VK), Same H6 G → (∀ r G', Same G G' → Tp G' r (z0 / 1000000000 :: (fs.drop 1).take 1) → Q' (.ref r) G') → ∀ p, G p = none → rSlA K (.ref pf) (some 1) (some 2) (upd G p (.tup [V.int (z0 / 1000000000)])) fun y H2 => rCatA K (.ref p) y H2 Q' := fun G Q' sG k p np => by
      have sp := same_upd (o := HO.tup [V.int (z0 / 1000000000)]) np
      refine sl_any (sp _ _ (sG _ _ hf)) fun q G2 s2 hq => ?_
      rw [cut12 (by rw [List.length_map]; omega)] at hq
      refine cat_any (s2 _ _ upd_same) hq (by rw [List.length_take]; show 1 + _ ≤ _; omega) fun r G3 s3 hr => k r G3 ((sp.trans s2).trans s3) ?_
      show _ = some (HO.tup _)
      rw [hr, List.map_cons, List.map_take, List.map_drop]
      rfl
    generalize z0 / 1000000000 :: (fs.drop 1).take 1 = ls at *
    have nL : nm (sr ls) ls.length ≤ 2 ^ 51 := by
      have := nm_list lsb
      have e : (2 : Nat) ^ 51 = 2251799813685248 := by decide
      omega
    have B100 : ((2 : Nat) ^ 51) ^ 100 < 2 ^ 100000 := by
      rw [← Nat.pow_mul]
      exact Nat.pow_lt_pow_right (by decide) (by decide)
    refine ⟨_, SqT.of (u3 _ _ hf), _, a0, ⟨by decide, by decide +kernel⟩, z0, rfl, ⟨by decide, by decide +kernel⟩, by decide, fun p np => mkl _ _ u3 (fun r4 G4 s4 hr4 => ?_) p np⟩
    refine ⟨_, 100, rfl, .inr ⟨ls, _, ⟨r4, rfl, hr4, ls1, by omega⟩, nL, by decide, B100, fun r5 G5 s5 hr5 => ⟨r5, powL ls 100, rfl, hr5, by unfold powL; rw [mk_len]; omega, fun G6 s6 => ?_⟩⟩⟩
    have u6 := ((u3.trans s4).trans s5).trans s6
    refine ⟨_, SqT.of (u6 _ _ hf), _, a0, ⟨by decide, by decide +kernel⟩, z0, rfl, ⟨by decide, by decide +kernel⟩, by decide, fun p np => mkl _ _ u6 (fun r7 G7 s7 hr7 => ?_) p np⟩
    refine raise_eq (n := 100) (b := 2 ^ 51) hr7 ((s6.trans s7) _ _ hr5) ls1 (by omega) (by decide) nL (by decide) B100 fun G8 s8 => ⟨true, rfl, ?_⟩
    rw [if_neg (by decide)]
    exact hR _ _ ⟨rfl, (u6.trans s7).trans s8⟩
  rintro σ H7 ⟨rfl, s7⟩
  replace hs := hs.same s7
  replace hf := hf.same s7
  clear s7 H6
  refine seq_cut (fun σ H8 => ∃ m : Nat, σ = [some (.ref a), some (.ref st), some (.int N), some (.ref pf), some (.ref pg), some (.int c), some (.int m), none, none, none, none, none] ∧ St H8 st ∧ Tp H8 pf fs ∧ m ≤ 500) (fun R hR => ?_) ?_
  · walk_at "rs"
    refine take_st hs (by omega) (by omega) fun v G b t v0 v1 => ⟨by decide, fun l nl => take_st (t.same (same_upd nl)) (by decide) (by decide) fun v2 G2 b2 t2 v20 v21 => ?_⟩
    have e1 : l ≠ st := fun e => by obtain ⟨x, y, h⟩ := t; rw [e, h] at nl; cases nl
    obtain ⟨w, aw, hw⟩ := pick4i v20 v21 0 1 v 500
    refine ⟨_, v2, rfl, SqL.of (b2 _ _ e1 upd_same), _, aw, hR _ _ ⟨w.toNat, by rw [Int.toNat_of_nonneg (by omega)], t2, ((hf.but b hs).same (same_upd nl)).but b2 (t.same (same_upd nl)), by omega⟩⟩
  clear hs hf n5
  rintro σ H8 ⟨m, rfl, hs, hf, m500⟩
  refine seq_cut (fun σ H9 => σ = [some (.ref a), some (.ref st), some (.int N), some (.ref pf), some (.ref pg), some (.int c), some (.int m), none, none, none, none, none] ∧ Same H8 H9) (fun R hR => ?_) ?_
  · walk_at "rs"
    have shl : (shL fs m).length ≤ 400 := by
      unfold shL
      rw [List.length_append, List.length_replicate, List.length_take]
      omega
    refine ⟨_, m, rfl, .inr ⟨fs, gf _ hf, fun r G s hr => ⟨r, _, rfl, hr, by omega, fun G1 s1 => ⟨by decide, fun p np => ?_⟩⟩⟩⟩
    rw [rd_repA]
    have u1 := (s.trans s1).trans (same_upd (o := HO.tup [V.int 0]) np)
    refine ⟨p, m, [.int 0], rfl, rfl, upd_same, by decide, by omega, by decide, fun p3 G3 s3 h3 => ?_⟩
    rw [rep_flat] at h3
    refine cat_any h3 ((u1.trans s3) _ _ hf) (by rw [List.length_replicate, List.length_map]; omega) fun p4 G4 s4 h4 => sl_any h4 fun p5 G5 s5 h5 => ?_
    rw [← lf, shL_take] at h5
    have u5 := ((u1.trans s3).trans s4).trans s5
    refine plain_eq (xs := shL fs m) (((((s1.trans (same_upd np)).trans s3).trans s4).trans s5) _ _ hr) h5 shl fun G6 s6 => ⟨true, rfl, ?_⟩
    rw [if_neg (by decide)]
    refine ⟨fs.length, by rw [lf], by omega, by omega, fun r7 G7 s7 hr7 => ⟨r7, _, rfl, hr7, by unfold unitL; rw [mk_len]; omega, fun G8 s8 => ⟨by decide, fun q1 nq1 => ⟨by decide, fun q2 nq2 => ?_⟩⟩⟩⟩
    rw [rd_repA]
    have hq1 := same_upd (o := HO.tup [V.int 0]) nq2 _ _ (upd_same (H := G8) (a := q1) (o := HO.tup [V.int 1]))
    have v8 := (s8.trans (same_upd (o := HO.tup [V.int 1]) nq1)).trans (same_upd (o := HO.tup [V.int 0]) nq2)
    refine ⟨q2, fs.length - 1, [.int 0], rfl, by congr 1; omega, upd_same, by decide, by omega, by decide, fun q3 G9 s9 h9 => ?_⟩
    rw [rep_flat] at h9
    refine cat_any (s9 _ _ hq1) h9 (by rw [List.length_replicate]; show 1 + _ ≤ _; omega) fun q4 G10 s10 h10 => ?_
    rw [unit_app (by omega)] at h10
    refine plain_eq (xs := unitL fs.length) (((v8.trans s9).trans s10) _ _ hr7) h10 (by unfold unitL; rw [mk_len]; omega) fun G11 s11 => ⟨true, rfl, ?_⟩
    rw [if_neg (by decide)]
    exact hR _ _ ⟨rfl, (((((u5.trans s6).trans s7).trans v8).trans s9).trans s10).trans s11⟩
  rintro σ H9 ⟨rfl, s9⟩
  replace hs := hs.same s9
  replace hf := hf.same s9
  clear s9 H8
  refine seq_cut (fun σ H10 => ∃ (M m2 : Nat), σ = [some (.ref a), some (.ref st), some (.int N), some (.ref pf), some (.ref pg), some (.int c), some (.int m2), some (.int M), none, none, none, none] ∧ St H10 st ∧ Tp H10 pf fs ∧ 1 ≤ M ∧ M ≤ 30 ∧ m2 ≤ 25) (fun R hR => ?_) ?_
  · walk_at "rs"
    refine take_st hs (by decide) (by decide) fun v1 G1 b1 t1 v10 v11 => ⟨v1, rfl, take_st t1 (by decide) (by decide) fun v2 G2 b2 t2 v20 v21 => ⟨by decide, fun l nl => take_st (t2.same (same_upd nl)) (by decide) (by decide) fun v3 G3 b3 t3 v30 v31 => ?_⟩⟩
    have e1 : l ≠ st := fun e => by obtain ⟨x, y, h⟩ := t2; rw [e, h] at nl; cases nl
    have f3 : Tp G3 pf fs := (((hf.but b1 hs).but b2 t1).same (same_upd nl)).but b3 (t2.same (same_upd nl))
    obtain ⟨w, aw, hw⟩ : ∃ w : Int, atI [V.int 0, V.int 1, V.int 3, V.int 24, V.int v2] v3 = some (.int w) ∧ (0 ≤ w ∧ w ≤ 25) := by
      have c : v3 = 0 ∨ v3 = 1 ∨ v3 = 2 ∨ v3 = 3 ∨ v3 = 4 := by omega
      rcases c with rfl | rfl | rfl | rfl | rfl
      · exact ⟨_, rfl, by decide⟩
      · exact ⟨_, rfl, by decide⟩
      · exact ⟨_, rfl, by decide⟩
      · exact ⟨_, rfl, by decide⟩
      · exact ⟨_, rfl, by omega⟩
    refine ⟨_, v3, rfl, SqL.of (b3 _ _ e1 upd_same), _, aw, hR _ _ ⟨(1 + v1).toNat, w.toNat, by rw [Int.toNat_of_nonneg hw.1, Int.toNat_of_nonneg (show 0 ≤ 1 + v1 by omega)], t3, f3, by omega, by omega, by omega⟩⟩
  clear hs hf
  rintro σ H10 ⟨M, m2, rfl, hs, hf, M1, M30, m25⟩
  refine seq_cut (fun σ H11 => σ = [some (.ref a), some (.ref st), some (.int N), some (.ref pf), some (.ref pg), some (.int c), some (.int m2), some (.int M), none, none, none, none] ∧ Same H10 H11) (fun R hR => ?_) ?_
  · walk_at "rs"
    refine ⟨M, m2, rfl, M1, by omega, m25, fun r G s hr => ⟨r, _, rfl, hr, by unfold powL; rw [mk_len, epl_len]; omega, fun G1 s1 => ⟨M, m2, rfl, M1, by omega, by omega, fun r2 G2 s2 hr2 => ?_⟩⟩⟩
    rw [← short_eq M1 M30] at hr2
    refine plain_eq (xs := powL (epl M) m2) ((s1.trans s2) _ _ hr) hr2 (by unfold powL; rw [mk_len, epl_len]; omega) fun G3 s3 => ⟨true, rfl, ?_⟩
    rw [if_neg (by decide)]
    exact hR _ _ ⟨rfl, ((s.trans s1).trans s2).trans s3⟩
  rintro σ H11 ⟨rfl, s11⟩
  replace hs := hs.same s11
  replace hf := hf.same s11
  clear s11 H10
  refine seq_cut (fun σ H12 => ∃ (pl : Addr) (ls : List Int) (m3 : Nat), σ = [some (.ref a), some (.ref st), some (.int N), some (.ref pf), some (.ref pg), some (.int c), some (.int m3), some (.int M), some (.ref pl), none, none, none] ∧ St H12 st ∧ Tp H12 pf fs ∧ Tp H12 pl ls ∧ 1 ≤ ls.length ∧ ls.length ≤ 8 ∧ (∀ x ∈ ls, x.natAbs ≤ 9) ∧ m3 ≤ 100) (fun R hR => ?_) ?_
  · walk_at "rs"
    refine take_st hs (by decide) (by decide) fun v G b t v0 v1 => ⟨v, rfl, ?_⟩
    have f1 : Tp G pf fs := hf.but b hs
    refine sl_any f1 fun ra G1 s1 h1 => ⟨ra, rfl, ⟨_, SqT.of h1⟩, ?_⟩
    have ec : cutV (fs.map V.int) none (some (2 + v)) = (fs.take (2 + v).toNat).map V.int := by
      have e2 : (2 + v) = (((2 + v).toNat : Nat) : Int) := by rw [Int.toNat_of_nonneg (by omega)]
      rw [List.map_take]
      generalize (2 + v).toNat = k at *
      rw [e2]
      unfold cutV
      rw [show HT.sIx (fs.map V.int).length (fs.map V.int).length (some (k : Int)) = min k (fs.map V.int).length from HT.sIx_nat _ _ _, HT.sIx_none, List.drop_zero, Nat.sub_zero]
      rcases Nat.le_total k (fs.map V.int).length with c | c
      · rw [Nat.min_eq_left c]
      · rw [Nat.min_eq_right c, List.take_length, List.take_of_length_le c]
    rw [ec] at h1
    have tl1 : 1 ≤ (fs.take (2 + v).toNat).length := by rw [List.length_take]; omega
    have tl8 : (fs.take (2 + v).toNat).length ≤ 8 := by rw [List.length_take]; omega
    generalize fs.take (2 + v).toNat = ts at *
    refine LcT.p (xs := ts.map V.int) (fun i => (ts[i]?).map fun x => V.int (lowI x)) (by rw [List.length_map]; omega) (fun G2 s2 => SqT.of (s2 _ _ h1)) ?_ ?_
    · intro i x hx G2 s2 M' S hM hS
      obtain ⟨z, rfl, hz⟩ := ints_at hx
      walk_at "rd"
      refine hM _ _ ?_ (Same.refl _)
      rw [hz]
      rfl
    · intro D2 G2 nD2 s2 hD2
      have e : (List.range (ts.map V.int).length).filterMap (fun i => (ts[i]?).map fun x => V.int (lowI x)) = (ts.map lowI).map V.int := by
        rw [List.length_map]
        have := fm_get ts (fun x => some (V.int (lowI x)))
        rw [List.filterMap_eq_map'] at this
        rw [List.map_map]
        refine Eq.trans (congrArg (fun g => List.filterMap g (List.range ts.length)) (funext fun i => ?_)) this
        cases ts[i]? <;> rfl
      rw [e] at hD2
      refine ⟨D2, rfl, tup_end (Q := fun x G => spTake [.ref st, .int 101] G (fun y G' => R [some (.ref a), some (.ref st), some (.int N), some (.ref pf), some (.ref pg), some (.int c), some y, some (.int M), some x, none, none, none] G') E0) hD2 fun l nl => ?_⟩
      have t4 := ((t.same s1).same s2).same (same_upd (o := HO.tup ((ts.map lowI).map V.int)) nl)
      have f4 : Tp (upd G2 l (.tup ((ts.map lowI).map V.int))) pf fs := (((f1.same s1).same s2).same (same_upd nl))
      have l4 : Tp (upd G2 l (.tup ((ts.map lowI).map V.int))) l (ts.map lowI) := upd_same
      refine take_st t4 (by decide) (by decide) fun v3 G3 b3 t3 v30 v31 => hR _ _ ⟨l, ts.map lowI, v3.toNat, by rw [Int.toNat_of_nonneg v30], t3, f4.but b3 t4, l4.but b3 t4, by rw [List.length_map]; exact tl1, by rw [List.length_map]; exact tl8, fun x hx => ?_, by omega⟩
      obtain ⟨y, _, rfl⟩ := List.mem_map.mp hx
      exact lowI_le y
  clear hs hf m25
  rintro σ H12 ⟨pl, ls, m3, rfl, hs, hf, hl', l1, l8, bl, m100⟩
  refine seq_cut (fun σ H13 => σ = [some (.ref a), some (.ref st), some (.int N), some (.ref pf), some (.ref pg), some (.int c), some (.int m3), some (.int M), some (.ref pl), none, none, none] ∧ Same H12 H13) (fun R hR => ?_) ?_
  · walk_at "rs"
    have nL : nm (sr ls) ls.length ≤ 72 := Nat.le_trans (nm_list bl) (by omega)
    have B100 : (72 : Nat) ^ m3 < 2 ^ 100000 := by
      have a1 : (72 : Nat) ^ m3 ≤ 72 ^ 100 := Nat.pow_le_pow_right (by decide) m100
      have a2 : (72 : Nat) ^ 100 < 2 ^ 700 := by decide
      exact Nat.lt_of_le_of_lt a1 (Nat.lt_of_lt_of_le a2 (Nat.pow_le_pow_right (by decide) (by decide)))
    refine ⟨_, m3, rfl, .inr ⟨ls, _, ⟨pl, rfl, hl', l1, by omega⟩, nL, by decide, B100, fun r G1 s1 hr1 => ⟨r, powL ls m3, rfl, hr1, by unfold powL; rw [mk_len]; omega, fun G2 s2 => ?_⟩⟩⟩
    refine raise_eq (b := 72) ((s1.trans s2) _ _ hl') (s2 _ _ hr1) l1 (by omega) (by omega) nL (by decide) B100 fun G3 s3 => ⟨true, rfl, ?_⟩
    rw [if_neg (by decide)]
    exact hR _ _ ⟨rfl, (s1.trans s2).trans s3⟩
  rintro σ H13 ⟨rfl, s13⟩
  replace hs := hs.same s13
  replace hf := hf.same s13
  clear s13 hl' H12
  refine seq_cut (fun σ H14 => ∃ (Wd e : Nat), σ = [some (.ref a), some (.ref st), some (.int N), some (.ref pf), some (.ref pg), some (.int c), some (.int e), some (.int M), some (.ref pl), some (.int Wd), none, none] ∧ St H14 st ∧ Tp H14 pf fs ∧ Wd ∈ [60, 200, 400] ∧ (e = 1 ∨ e = 3)) (fun R hR => ?_) ?_
  · walk_at "rs"
    refine ⟨by decide, fun la nla => take_st (hs.same (same_upd nla)) (by decide) (by decide) fun v1 G1 b1 t1 v10 v11 => ?_⟩
    have e1 : la ≠ st := fun e => by obtain ⟨x, y, h⟩ := hs; rw [e, h] at nla; cases nla
    obtain ⟨w1, aw1, hw1⟩ := pick3 v10 v11 (V.int 60) (V.int 200) (V.int 400)
    refine ⟨_, v1, rfl, SqL.of (b1 _ _ e1 upd_same), _, aw1, by decide, fun lb nlb => take_st (t1.same (same_upd nlb)) (by decide) (by decide) fun v2 G2 b2 t2 v20 v21 => ?_⟩
    have e2 : lb ≠ st := fun e => by obtain ⟨x, y, h⟩ := t1; rw [e, h] at nlb; cases nlb
    obtain ⟨w2, aw2, hw2⟩ := pick3 v20 v21 (V.int 1) (V.int 1) (V.int 3)
    have f2 : Tp G2 pf fs := (((hf.same (same_upd nla)).but b1 (hs.same (same_upd nla))).same (same_upd nlb)).but b2 (t1.same (same_upd nlb))
    refine ⟨_, v2, rfl, SqL.of (b2 _ _ e2 upd_same), _, aw2, ?_⟩
    obtain ⟨Wd, rfl, hWd⟩ : ∃ Wd : Nat, w1 = .int Wd ∧ Wd ∈ [60, 200, 400] := by
      rcases hw1 with rfl | rfl | rfl
      · exact ⟨60, rfl, by decide⟩
      · exact ⟨200, rfl, by decide⟩
      · exact ⟨400, rfl, by decide⟩
    obtain ⟨e, rfl, he⟩ : ∃ e : Nat, w2 = .int e ∧ (e = 1 ∨ e = 3) := by
      rcases hw2 with rfl | rfl | rfl
      · exact ⟨1, rfl, .inl rfl⟩
      · exact ⟨1, rfl, .inl rfl⟩
      · exact ⟨3, rfl, .inr rfl⟩
    exact hR _ _ ⟨Wd, e, rfl, t2, f2, hWd, he⟩
  clear hs hf
  rintro σ H14 ⟨Wd, e, rfl, hs, hf, hWd, he⟩
  have w1 : 1 ≤ Wd ∧ Wd ≤ 400 := by
    simp only [List.mem_cons, List.not_mem_nil, or_false] at hWd
    omega
  refine seq_cut (fun σ H15 => σ = [some (.ref a), some (.ref st), some (.int N), some (.ref pf), some (.ref pg), some (.int c), some (.int e), some (.int M), some (.ref pl), some (.int Wd), none, none] ∧ Same H14 H15) (fun R hR => ?_) ?_
  · walk_at "rs"
    refine ⟨Wd, e, rfl, w1.1, w1.2, by omega, fun r G s hr => ⟨r, _, rfl, hr, by unfold powL; rw [mk_len, epl_len]; omega, fun G1 s1 => ⟨Wd, e, rfl, w1.2, he, fun r2 G2 s2 hr2 => ?_⟩⟩⟩
    rw [← wide_eq hWd he] at hr2
    refine plain_eq (xs := powL (epl Wd) e) ((s1.trans s2) _ _ hr) hr2 (by unfold powL; rw [mk_len, epl_len]; omega) fun G3 s3 => ⟨true, rfl, ?_⟩
    rw [if_neg (by decide)]
    exact hR _ _ ⟨rfl, ((s.trans s1).trans s2).trans s3⟩
  rintro σ H15 ⟨rfl, s15⟩
  replace hs := hs.same s15
  replace hf := hf.same s15
  walk_at "rs"
  refine sl_any hf fun r G s hr => ?_
  have ec : cutV (fs.map V.int) none (some 12) = (fs.take 12).map V.int := by
    unfold cutV
    rw [show HT.sIx (fs.map V.int).length (fs.map V.int).length (some 12) = min 12 (fs.map V.int).length from HT.sIx_nat _ _ 12, HT.sIx_none, List.drop_zero, Nat.sub_zero, List.map_take]
    rcases Nat.le_total 12 (fs.map V.int).length with c | c
    · rw [Nat.min_eq_left c]
    · rw [Nat.min_eq_right c, List.take_length, List.take_of_length_le c]
  rw [ec] at hr
  obtain ⟨x, y, h⟩ := hs.same s
  exact ⟨st, r, x, y, fs.take 12, rfl, h, hr, by rw [List.length_take]; omega, by rw [List.length_take]; omega, q⟩
end

theorem all_mk {l : PySem.W.OpenLaw} {w : World} {K : PySem.W.Frag} {h : Heap} {mg : Str → Option Value} {fa f__law_take f__law_state f_is_integer f__law_is_number f_is_row f__is_length f_is_series f_check_series f__law_odd f__law_plain f__law_is_equal f_add f_scaled f_product_of f_unit_series f_power_of f__check_pair f_plus f_times f_multiple f_power f_shifted f_check_length f__law_joined f__law_raised f_euler_product f__law_euler f__law_series f__law_sparse f__law_refused f__law_values_hold f_law CM : Addr} (X : K.In h) (G : h.Ns mainGlobals mg) (hfa : mg "law" = some (.ref fa))
    {od__law_take an__law_take od__law_state an__law_state od_is_integer an_is_integer od__law_is_number an__law_is_number od_is_row an_is_row od__is_length an__is_length od_is_series an_is_series od_check_series an_check_series od__law_odd an__law_odd od__law_plain an__law_plain od__law_is_equal an__law_is_equal od_add an_add od_scaled an_scaled od_product_of an_product_of od_unit_series an_unit_series od_power_of an_power_of od__check_pair an__check_pair od_plus an_plus od_times an_times od_multiple an_multiple od_power an_power od_shifted an_shifted od_check_length an_check_length od__law_joined an__law_joined od__law_raised an__law_raised od_euler_product an_euler_product od__law_euler an__law_euler od__law_series an__law_series od__law_sparse an__law_sparse od__law_refused an__law_refused od__law_values_hold an__law_values_hold od_law an_law : Option Addr} {sl__law_take sl__law_state sl_is_integer sl__law_is_number sl_is_row sl__is_length sl_is_series sl_check_series sl__law_odd sl__law_plain sl__law_is_equal sl_add sl_scaled sl_product_of sl_unit_series sl_power_of sl__check_pair sl_plus sl_times sl_multiple sl_power sl_shifted sl_check_length sl__law_joined sl__law_raised sl_euler_product sl__law_euler sl__law_series sl__law_sparse sl__law_refused sl__law_values_hold sl_law : Array (Option Value)} {oc__law_take kV__law_take dc__law_take pm__law_take cd__law_take ct__law_take oc__law_state kV__law_state dc__law_state pm__law_state cd__law_state ct__law_state oc_is_integer kV_is_integer dc_is_integer pm_is_integer cd_is_integer ct_is_integer oc__law_is_number kV__law_is_number dc__law_is_number pm__law_is_number cd__law_is_number ct__law_is_number oc_is_row kV_is_row dc_is_row pm_is_row cd_is_row ct_is_row oc__is_length kV__is_length dc__is_length pm__is_length cd__is_length ct__is_length oc_is_series kV_is_series dc_is_series pm_is_series cd_is_series ct_is_series oc_check_series kV_check_series dc_check_series pm_check_series cd_check_series ct_check_series oc__law_odd kV__law_odd dc__law_odd pm__law_odd cd__law_odd ct__law_odd oc__law_plain kV__law_plain dc__law_plain pm__law_plain cd__law_plain ct__law_plain oc__law_is_equal kV__law_is_equal dc__law_is_equal pm__law_is_equal cd__law_is_equal ct__law_is_equal oc_add kV_add dc_add pm_add cd_add ct_add oc_scaled kV_scaled dc_scaled pm_scaled cd_scaled ct_scaled oc_product_of kV_product_of dc_product_of pm_product_of cd_product_of ct_product_of oc_unit_series kV_unit_series dc_unit_series pm_unit_series cd_unit_series ct_unit_series oc_power_of kV_power_of dc_power_of pm_power_of cd_power_of ct_power_of oc__check_pair kV__check_pair dc__check_pair pm__check_pair cd__check_pair ct__check_pair oc_plus kV_plus dc_plus pm_plus cd_plus ct_plus oc_times kV_times dc_times pm_times cd_times ct_times oc_multiple kV_multiple dc_multiple pm_multiple cd_multiple ct_multiple oc_power kV_power dc_power pm_power cd_power ct_power oc_shifted kV_shifted dc_shifted pm_shifted cd_shifted ct_shifted oc_check_length kV_check_length dc_check_length pm_check_length cd_check_length ct_check_length oc__law_joined kV__law_joined dc__law_joined pm__law_joined cd__law_joined ct__law_joined oc__law_raised kV__law_raised dc__law_raised pm__law_raised cd__law_raised ct__law_raised oc_euler_product kV_euler_product dc_euler_product pm_euler_product cd_euler_product ct_euler_product oc__law_euler kV__law_euler dc__law_euler pm__law_euler cd__law_euler ct__law_euler oc__law_series kV__law_series dc__law_series pm__law_series cd__law_series ct__law_series oc__law_sparse kV__law_sparse dc__law_sparse pm__law_sparse cd__law_sparse ct__law_sparse oc__law_refused kV__law_refused dc__law_refused pm__law_refused cd__law_refused ct__law_refused oc__law_values_hold kV__law_values_hold dc__law_values_hold pm__law_values_hold cd__law_values_hold ct__law_values_hold oc_law kV_law dc_law pm_law cd_law ct_law : Value} {t_LONGEST : Tok}
    (a__law_take : PySem.W.nsIn K mainGlobals "_law_take" = some (some (.ref f__law_take)))
    (l__law_take : K.lookup f__law_take = some ⟨oc__law_take, od__law_take, .func (PySem.W.fnOf "_law_take" "_law_take" (defArgs s__law_take) (defBody s__law_take) (defScope s__law_take) .none kV__law_take dc__law_take pm__law_take an__law_take cd__law_take ct__law_take), sl__law_take⟩)
    (c__law_take : PySem.W.codeIn K cd__law_take "_law_take" = true)
    (k__law_take : PySem.W.keepIn K (.ref f__law_take) = true)
    (a__law_state : PySem.W.nsIn K mainGlobals "_law_state" = some (some (.ref f__law_state)))
    (l__law_state : K.lookup f__law_state = some ⟨oc__law_state, od__law_state, .func (PySem.W.fnOf "_law_state" "_law_state" (defArgs s__law_state) (defBody s__law_state) (defScope s__law_state) .none kV__law_state dc__law_state pm__law_state an__law_state cd__law_state ct__law_state), sl__law_state⟩)
    (c__law_state : PySem.W.codeIn K cd__law_state "_law_state" = true)
    (k__law_state : PySem.W.keepIn K (.ref f__law_state) = true)
    (a_is_integer : PySem.W.nsIn K mainGlobals "is_integer" = some (some (.ref f_is_integer)))
    (l_is_integer : K.lookup f_is_integer = some ⟨oc_is_integer, od_is_integer, .func (PySem.W.fnOf "is_integer" "is_integer" (defArgs s_is_integer) (defBody s_is_integer) (defScope s_is_integer) .none kV_is_integer dc_is_integer pm_is_integer an_is_integer cd_is_integer ct_is_integer), sl_is_integer⟩)
    (c_is_integer : PySem.W.codeIn K cd_is_integer "is_integer" = true)
    (k_is_integer : PySem.W.keepIn K (.ref f_is_integer) = true)
    (a__law_is_number : PySem.W.nsIn K mainGlobals "_law_is_number" = some (some (.ref f__law_is_number)))
    (l__law_is_number : K.lookup f__law_is_number = some ⟨oc__law_is_number, od__law_is_number, .func (PySem.W.fnOf "_law_is_number" "_law_is_number" (defArgs s__law_is_number) (defBody s__law_is_number) (defScope s__law_is_number) .none kV__law_is_number dc__law_is_number pm__law_is_number an__law_is_number cd__law_is_number ct__law_is_number), sl__law_is_number⟩)
    (c__law_is_number : PySem.W.codeIn K cd__law_is_number "_law_is_number" = true)
    (k__law_is_number : PySem.W.keepIn K (.ref f__law_is_number) = true)
    (a_is_row : PySem.W.nsIn K mainGlobals "is_row" = some (some (.ref f_is_row)))
    (l_is_row : K.lookup f_is_row = some ⟨oc_is_row, od_is_row, .func (PySem.W.fnOf "is_row" "is_row" (defArgs s_is_row) (defBody s_is_row) (defScope s_is_row) .none kV_is_row dc_is_row pm_is_row an_is_row cd_is_row ct_is_row), sl_is_row⟩)
    (c_is_row : PySem.W.codeIn K cd_is_row "is_row" = true)
    (k_is_row : PySem.W.keepIn K (.ref f_is_row) = true)
    (a__is_length : PySem.W.nsIn K mainGlobals "_is_length" = some (some (.ref f__is_length)))
    (l__is_length : K.lookup f__is_length = some ⟨oc__is_length, od__is_length, .func (PySem.W.fnOf "_is_length" "_is_length" (defArgs s__is_length) (defBody s__is_length) (defScope s__is_length) .none kV__is_length dc__is_length pm__is_length an__is_length cd__is_length ct__is_length), sl__is_length⟩)
    (c__is_length : PySem.W.codeIn K cd__is_length "_is_length" = true)
    (k__is_length : PySem.W.keepIn K (.ref f__is_length) = true)
    (a_is_series : PySem.W.nsIn K mainGlobals "is_series" = some (some (.ref f_is_series)))
    (l_is_series : K.lookup f_is_series = some ⟨oc_is_series, od_is_series, .func (PySem.W.fnOf "is_series" "is_series" (defArgs s_is_series) (defBody s_is_series) (defScope s_is_series) .none kV_is_series dc_is_series pm_is_series an_is_series cd_is_series ct_is_series), sl_is_series⟩)
    (c_is_series : PySem.W.codeIn K cd_is_series "is_series" = true)
    (k_is_series : PySem.W.keepIn K (.ref f_is_series) = true)
    (a_check_series : PySem.W.nsIn K mainGlobals "check_series" = some (some (.ref f_check_series)))
    (l_check_series : K.lookup f_check_series = some ⟨oc_check_series, od_check_series, .func (PySem.W.fnOf "check_series" "check_series" (defArgs s_check_series) (defBody s_check_series) (defScope s_check_series) .none kV_check_series dc_check_series pm_check_series an_check_series cd_check_series ct_check_series), sl_check_series⟩)
    (c_check_series : PySem.W.codeIn K cd_check_series "check_series" = true)
    (k_check_series : PySem.W.keepIn K (.ref f_check_series) = true)
    (a__law_odd : PySem.W.nsIn K mainGlobals "_law_odd" = some (some (.ref f__law_odd)))
    (l__law_odd : K.lookup f__law_odd = some ⟨oc__law_odd, od__law_odd, .func (PySem.W.fnOf "_law_odd" "_law_odd" (defArgs s__law_odd) (defBody s__law_odd) (defScope s__law_odd) .none kV__law_odd dc__law_odd pm__law_odd an__law_odd cd__law_odd ct__law_odd), sl__law_odd⟩)
    (c__law_odd : PySem.W.codeIn K cd__law_odd "_law_odd" = true)
    (k__law_odd : PySem.W.keepIn K (.ref f__law_odd) = true)
    (a__law_plain : PySem.W.nsIn K mainGlobals "_law_plain" = some (some (.ref f__law_plain)))
    (l__law_plain : K.lookup f__law_plain = some ⟨oc__law_plain, od__law_plain, .func (PySem.W.fnOf "_law_plain" "_law_plain" (defArgs s__law_plain) (defBody s__law_plain) (defScope s__law_plain) .none kV__law_plain dc__law_plain pm__law_plain an__law_plain cd__law_plain ct__law_plain), sl__law_plain⟩)
    (c__law_plain : PySem.W.codeIn K cd__law_plain "_law_plain" = true)
    (k__law_plain : PySem.W.keepIn K (.ref f__law_plain) = true)
    (a__law_is_equal : PySem.W.nsIn K mainGlobals "_law_is_equal" = some (some (.ref f__law_is_equal)))
    (l__law_is_equal : K.lookup f__law_is_equal = some ⟨oc__law_is_equal, od__law_is_equal, .func (PySem.W.fnOf "_law_is_equal" "_law_is_equal" (defArgs s__law_is_equal) (defBody s__law_is_equal) (defScope s__law_is_equal) .none kV__law_is_equal dc__law_is_equal pm__law_is_equal an__law_is_equal cd__law_is_equal ct__law_is_equal), sl__law_is_equal⟩)
    (c__law_is_equal : PySem.W.codeIn K cd__law_is_equal "_law_is_equal" = true)
    (k__law_is_equal : PySem.W.keepIn K (.ref f__law_is_equal) = true)
    (a_add : PySem.W.nsIn K mainGlobals "add" = some (some (.ref f_add)))
    (l_add : K.lookup f_add = some ⟨oc_add, od_add, .func (PySem.W.fnOf "add" "add" (defArgs s_add) (defBody s_add) (defScope s_add) .none kV_add dc_add pm_add an_add cd_add ct_add), sl_add⟩)
    (c_add : PySem.W.codeIn K cd_add "add" = true)
    (k_add : PySem.W.keepIn K (.ref f_add) = true)
    (a_scaled : PySem.W.nsIn K mainGlobals "scaled" = some (some (.ref f_scaled)))
    (l_scaled : K.lookup f_scaled = some ⟨oc_scaled, od_scaled, .func (PySem.W.fnOf "scaled" "scaled" (defArgs s_scaled) (defBody s_scaled) (defScope s_scaled) .none kV_scaled dc_scaled pm_scaled an_scaled cd_scaled ct_scaled), sl_scaled⟩)
    (c_scaled : PySem.W.codeIn K cd_scaled "scaled" = true)
    (k_scaled : PySem.W.keepIn K (.ref f_scaled) = true)
    (a_product_of : PySem.W.nsIn K mainGlobals "product_of" = some (some (.ref f_product_of)))
    (l_product_of : K.lookup f_product_of = some ⟨oc_product_of, od_product_of, .func (PySem.W.fnOf "product_of" "product_of" (defArgs s_product_of) (defBody s_product_of) (defScope s_product_of) .none kV_product_of dc_product_of pm_product_of an_product_of cd_product_of ct_product_of), sl_product_of⟩)
    (c_product_of : PySem.W.codeIn K cd_product_of "product_of" = true)
    (k_product_of : PySem.W.keepIn K (.ref f_product_of) = true)
    (a_unit_series : PySem.W.nsIn K mainGlobals "unit_series" = some (some (.ref f_unit_series)))
    (l_unit_series : K.lookup f_unit_series = some ⟨oc_unit_series, od_unit_series, .func (PySem.W.fnOf "unit_series" "unit_series" (defArgs s_unit_series) (defBody s_unit_series) (defScope s_unit_series) .none kV_unit_series dc_unit_series pm_unit_series an_unit_series cd_unit_series ct_unit_series), sl_unit_series⟩)
    (c_unit_series : PySem.W.codeIn K cd_unit_series "unit_series" = true)
    (k_unit_series : PySem.W.keepIn K (.ref f_unit_series) = true)
    (a_power_of : PySem.W.nsIn K mainGlobals "power_of" = some (some (.ref f_power_of)))
    (l_power_of : K.lookup f_power_of = some ⟨oc_power_of, od_power_of, .func (PySem.W.fnOf "power_of" "power_of" (defArgs s_power_of) (defBody s_power_of) (defScope s_power_of) .none kV_power_of dc_power_of pm_power_of an_power_of cd_power_of ct_power_of), sl_power_of⟩)
    (c_power_of : PySem.W.codeIn K cd_power_of "power_of" = true)
    (k_power_of : PySem.W.keepIn K (.ref f_power_of) = true)
    (a__check_pair : PySem.W.nsIn K mainGlobals "_check_pair" = some (some (.ref f__check_pair)))
    (l__check_pair : K.lookup f__check_pair = some ⟨oc__check_pair, od__check_pair, .func (PySem.W.fnOf "_check_pair" "_check_pair" (defArgs s__check_pair) (defBody s__check_pair) (defScope s__check_pair) .none kV__check_pair dc__check_pair pm__check_pair an__check_pair cd__check_pair ct__check_pair), sl__check_pair⟩)
    (c__check_pair : PySem.W.codeIn K cd__check_pair "_check_pair" = true)
    (k__check_pair : PySem.W.keepIn K (.ref f__check_pair) = true)
    (a_plus : PySem.W.nsIn K mainGlobals "plus" = some (some (.ref f_plus)))
    (l_plus : K.lookup f_plus = some ⟨oc_plus, od_plus, .func (PySem.W.fnOf "plus" "plus" (defArgs s_plus) (defBody s_plus) (defScope s_plus) .none kV_plus dc_plus pm_plus an_plus cd_plus ct_plus), sl_plus⟩)
    (c_plus : PySem.W.codeIn K cd_plus "plus" = true)
    (k_plus : PySem.W.keepIn K (.ref f_plus) = true)
    (a_times : PySem.W.nsIn K mainGlobals "times" = some (some (.ref f_times)))
    (l_times : K.lookup f_times = some ⟨oc_times, od_times, .func (PySem.W.fnOf "times" "times" (defArgs s_times) (defBody s_times) (defScope s_times) .none kV_times dc_times pm_times an_times cd_times ct_times), sl_times⟩)
    (c_times : PySem.W.codeIn K cd_times "times" = true)
    (k_times : PySem.W.keepIn K (.ref f_times) = true)
    (a_multiple : PySem.W.nsIn K mainGlobals "multiple" = some (some (.ref f_multiple)))
    (l_multiple : K.lookup f_multiple = some ⟨oc_multiple, od_multiple, .func (PySem.W.fnOf "multiple" "multiple" (defArgs s_multiple) (defBody s_multiple) (defScope s_multiple) .none kV_multiple dc_multiple pm_multiple an_multiple cd_multiple ct_multiple), sl_multiple⟩)
    (c_multiple : PySem.W.codeIn K cd_multiple "multiple" = true)
    (k_multiple : PySem.W.keepIn K (.ref f_multiple) = true)
    (a_power : PySem.W.nsIn K mainGlobals "power" = some (some (.ref f_power)))
    (l_power : K.lookup f_power = some ⟨oc_power, od_power, .func (PySem.W.fnOf "power" "power" (defArgs s_power) (defBody s_power) (defScope s_power) .none kV_power dc_power pm_power an_power cd_power ct_power), sl_power⟩)
    (c_power : PySem.W.codeIn K cd_power "power" = true)
    (k_power : PySem.W.keepIn K (.ref f_power) = true)
    (a_shifted : PySem.W.nsIn K mainGlobals "shifted" = some (some (.ref f_shifted)))
    (l_shifted : K.lookup f_shifted = some ⟨oc_shifted, od_shifted, .func (PySem.W.fnOf "shifted" "shifted" (defArgs s_shifted) (defBody s_shifted) (defScope s_shifted) .none kV_shifted dc_shifted pm_shifted an_shifted cd_shifted ct_shifted), sl_shifted⟩)
    (c_shifted : PySem.W.codeIn K cd_shifted "shifted" = true)
    (k_shifted : PySem.W.keepIn K (.ref f_shifted) = true)
    (a_check_length : PySem.W.nsIn K mainGlobals "check_length" = some (some (.ref f_check_length)))
    (l_check_length : K.lookup f_check_length = some ⟨oc_check_length, od_check_length, .func (PySem.W.fnOf "check_length" "check_length" (defArgs s_check_length) (defBody s_check_length) (defScope s_check_length) .none kV_check_length dc_check_length pm_check_length an_check_length cd_check_length ct_check_length), sl_check_length⟩)
    (c_check_length : PySem.W.codeIn K cd_check_length "check_length" = true)
    (k_check_length : PySem.W.keepIn K (.ref f_check_length) = true)
    (a__law_joined : PySem.W.nsIn K mainGlobals "_law_joined" = some (some (.ref f__law_joined)))
    (l__law_joined : K.lookup f__law_joined = some ⟨oc__law_joined, od__law_joined, .func (PySem.W.fnOf "_law_joined" "_law_joined" (defArgs s__law_joined) (defBody s__law_joined) (defScope s__law_joined) .none kV__law_joined dc__law_joined pm__law_joined an__law_joined cd__law_joined ct__law_joined), sl__law_joined⟩)
    (c__law_joined : PySem.W.codeIn K cd__law_joined "_law_joined" = true)
    (k__law_joined : PySem.W.keepIn K (.ref f__law_joined) = true)
    (a__law_raised : PySem.W.nsIn K mainGlobals "_law_raised" = some (some (.ref f__law_raised)))
    (l__law_raised : K.lookup f__law_raised = some ⟨oc__law_raised, od__law_raised, .func (PySem.W.fnOf "_law_raised" "_law_raised" (defArgs s__law_raised) (defBody s__law_raised) (defScope s__law_raised) .none kV__law_raised dc__law_raised pm__law_raised an__law_raised cd__law_raised ct__law_raised), sl__law_raised⟩)
    (c__law_raised : PySem.W.codeIn K cd__law_raised "_law_raised" = true)
    (k__law_raised : PySem.W.keepIn K (.ref f__law_raised) = true)
    (a_euler_product : PySem.W.nsIn K mainGlobals "euler_product" = some (some (.ref f_euler_product)))
    (l_euler_product : K.lookup f_euler_product = some ⟨oc_euler_product, od_euler_product, .func (PySem.W.fnOf "euler_product" "euler_product" (defArgs s_euler_product) (defBody s_euler_product) (defScope s_euler_product) .none kV_euler_product dc_euler_product pm_euler_product an_euler_product cd_euler_product ct_euler_product), sl_euler_product⟩)
    (c_euler_product : PySem.W.codeIn K cd_euler_product "euler_product" = true)
    (k_euler_product : PySem.W.keepIn K (.ref f_euler_product) = true)
    (a__law_euler : PySem.W.nsIn K mainGlobals "_law_euler" = some (some (.ref f__law_euler)))
    (l__law_euler : K.lookup f__law_euler = some ⟨oc__law_euler, od__law_euler, .func (PySem.W.fnOf "_law_euler" "_law_euler" (defArgs s__law_euler) (defBody s__law_euler) (defScope s__law_euler) .none kV__law_euler dc__law_euler pm__law_euler an__law_euler cd__law_euler ct__law_euler), sl__law_euler⟩)
    (c__law_euler : PySem.W.codeIn K cd__law_euler "_law_euler" = true)
    (k__law_euler : PySem.W.keepIn K (.ref f__law_euler) = true)
    (a__law_series : PySem.W.nsIn K mainGlobals "_law_series" = some (some (.ref f__law_series)))
    (l__law_series : K.lookup f__law_series = some ⟨oc__law_series, od__law_series, .func (PySem.W.fnOf "_law_series" "_law_series" (defArgs s__law_series) (defBody s__law_series) (defScope s__law_series) .none kV__law_series dc__law_series pm__law_series an__law_series cd__law_series ct__law_series), sl__law_series⟩)
    (c__law_series : PySem.W.codeIn K cd__law_series "_law_series" = true)
    (k__law_series : PySem.W.keepIn K (.ref f__law_series) = true)
    (a__law_sparse : PySem.W.nsIn K mainGlobals "_law_sparse" = some (some (.ref f__law_sparse)))
    (l__law_sparse : K.lookup f__law_sparse = some ⟨oc__law_sparse, od__law_sparse, .func (PySem.W.fnOf "_law_sparse" "_law_sparse" (defArgs s__law_sparse) (defBody s__law_sparse) (defScope s__law_sparse) .none kV__law_sparse dc__law_sparse pm__law_sparse an__law_sparse cd__law_sparse ct__law_sparse), sl__law_sparse⟩)
    (c__law_sparse : PySem.W.codeIn K cd__law_sparse "_law_sparse" = true)
    (k__law_sparse : PySem.W.keepIn K (.ref f__law_sparse) = true)
    (a__law_refused : PySem.W.nsIn K mainGlobals "_law_refused" = some (some (.ref f__law_refused)))
    (l__law_refused : K.lookup f__law_refused = some ⟨oc__law_refused, od__law_refused, .func (PySem.W.fnOf "_law_refused" "_law_refused" (defArgs s__law_refused) (defBody s__law_refused) (defScope s__law_refused) .none kV__law_refused dc__law_refused pm__law_refused an__law_refused cd__law_refused ct__law_refused), sl__law_refused⟩)
    (c__law_refused : PySem.W.codeIn K cd__law_refused "_law_refused" = true)
    (k__law_refused : PySem.W.keepIn K (.ref f__law_refused) = true)
    (a__law_values_hold : PySem.W.nsIn K mainGlobals "_law_values_hold" = some (some (.ref f__law_values_hold)))
    (l__law_values_hold : K.lookup f__law_values_hold = some ⟨oc__law_values_hold, od__law_values_hold, .func (PySem.W.fnOf "_law_values_hold" "_law_values_hold" (defArgs s__law_values_hold) (defBody s__law_values_hold) (defScope s__law_values_hold) .none kV__law_values_hold dc__law_values_hold pm__law_values_hold an__law_values_hold cd__law_values_hold ct__law_values_hold), sl__law_values_hold⟩)
    (c__law_values_hold : PySem.W.codeIn K cd__law_values_hold "_law_values_hold" = true)
    (k__law_values_hold : PySem.W.keepIn K (.ref f__law_values_hold) = true)
    (a_law : PySem.W.nsIn K mainGlobals "law" = some (some (.ref f_law)))
    (l_law : K.lookup f_law = some ⟨oc_law, od_law, .func (PySem.W.fnOf "law" "law" (defArgs s_law) (defBody s_law) (defScope s_law) .none kV_law dc_law pm_law an_law cd_law ct_law), sl_law⟩)
    (c_law : PySem.W.codeIn K cd_law "law" = true)
    (k_law : PySem.W.keepIn K (.ref f_law) = true)
    (z_abs : PySem.W.nsIn K mainGlobals "abs" = some none)
    (z_int : PySem.W.nsIn K mainGlobals "int" = some none)
    (z_bool : PySem.W.nsIn K mainGlobals "bool" = some none)
    (z_tuple : PySem.W.nsIn K mainGlobals "tuple" = some none)
    (z_list : PySem.W.nsIn K mainGlobals "list" = some none)
    (z_max : PySem.W.nsIn K mainGlobals "max" = some none)
    (z_min : PySem.W.nsIn K mainGlobals "min" = some none)
    (z_range : PySem.W.nsIn K mainGlobals "range" = some none)
    (z_sorted : PySem.W.nsIn K mainGlobals "sorted" = some none)
    (z_isinstance : PySem.W.nsIn K mainGlobals "isinstance" = some none)
    (z_len : PySem.W.nsIn K mainGlobals "len" = some none)
    (z_all : PySem.W.nsIn K mainGlobals "all" = some none)
    (z_zip : PySem.W.nsIn K mainGlobals "zip" = some none)
    (z_enumerate : PySem.W.nsIn K mainGlobals "enumerate" = some none)
    (z_set : PySem.W.nsIn K mainGlobals "set" = some none)
    (v_LONGEST : PySem.W.nsIn K mainGlobals "LONGEST" = some (some (.int 400 t_LONGEST)))
    (aM : PySem.W.nsIn K mainGlobals "Malformed" = some (some (.ref CM)))
    (xM : PySem.W.excIn K CM veB "ValueError.__new__" = true)
    (kM : PySem.W.keepIn K (.ref CM) = true)
    (bM : PySem.W.subIn K (.ref CM) (.type "BaseException") = some true)
    (tM : PySem.W.typeIn K (.ref CM) = some (.type "type"))
    (iM : PySem.W.isClsIn K CM = true)
    (mM : PySem.W.subIn K (.ref CM) (.ref CM) = some true) :
    ∃ fd : FuncData, (∀ (s : Shared) (v : Value), BindsTo s fd ⟨[v], []⟩ [("script", v)]) ∧ ∀ base : Heap, K.In base → base.Ns mainGlobals mg → FnOk l.prog w K mg base CX0 9 fa fd ["script"] (spLaw K) := by
  have e := hfa.symm.trans (PySem.W.mg_of X G a_law)
  cases e
  have B : Bl mg := { abs := PySem.W.mg_none_of X G z_abs, int := PySem.W.mg_none_of X G z_int, bool := PySem.W.mg_none_of X G z_bool, tuple := PySem.W.mg_none_of X G z_tuple, list := PySem.W.mg_none_of X G z_list, max := PySem.W.mg_none_of X G z_max, min := PySem.W.mg_none_of X G z_min, range := PySem.W.mg_none_of X G z_range, sorted := PySem.W.mg_none_of X G z_sorted, isinstance := PySem.W.mg_none_of X G z_isinstance, len := PySem.W.mg_none_of X G z_len, all := PySem.W.mg_none_of X G z_all, zip := PySem.W.mg_none_of X G z_zip, enumerate := PySem.W.mg_none_of X G z_enumerate, set := PySem.W.mg_none_of X G z_set, c_LONGEST := ⟨_, PySem.W.mg_of X G v_LONGEST⟩ }
  have d__law_take : Dn K mg "_law_take" s__law_take ["state", "m"] := dn_mk X G a__law_take l__law_take c__law_take k__law_take fun _ _ _ _ _ _ us hl => match us, hl with | [_, _], _ => rfl
  have d__law_state : Dn K mg "_law_state" s__law_state ["script"] := dn_mk X G a__law_state l__law_state c__law_state k__law_state fun _ _ _ _ _ _ us hl => match us, hl with | [_], _ => rfl
  have d_is_integer : Dn K mg "is_integer" s_is_integer ["value"] := dn_mk X G a_is_integer l_is_integer c_is_integer k_is_integer fun _ _ _ _ _ _ us hl => match us, hl with | [_], _ => rfl
  have d__law_is_number : Dn K mg "_law_is_number" s__law_is_number ["value"] := dn_mk X G a__law_is_number l__law_is_number c__law_is_number k__law_is_number fun _ _ _ _ _ _ us hl => match us, hl with | [_], _ => rfl
  have d_is_row : Dn K mg "is_row" s_is_row ["value", "n"] := dn_mk X G a_is_row l_is_row c_is_row k_is_row fun _ _ _ _ _ _ us hl => match us, hl with | [_, _], _ => rfl
  have d__is_length : Dn K mg "_is_length" s__is_length ["value"] := dn_mk X G a__is_length l__is_length c__is_length k__is_length fun _ _ _ _ _ _ us hl => match us, hl with | [_], _ => rfl
  have d_is_series : Dn K mg "is_series" s_is_series ["value"] := dn_mk X G a_is_series l_is_series c_is_series k_is_series fun _ _ _ _ _ _ us hl => match us, hl with | [_], _ => rfl
  have d_check_series : Dn K mg "check_series" s_check_series ["f"] := dn_mk X G a_check_series l_check_series c_check_series k_check_series fun _ _ _ _ _ _ us hl => match us, hl with | [_], _ => rfl
  have d__law_odd : Dn K mg "_law_odd" s__law_odd ["value"] := dn_mk X G a__law_odd l__law_odd c__law_odd k__law_odd fun _ _ _ _ _ _ us hl => match us, hl with | [_], _ => rfl
  have d__law_plain : Dn K mg "_law_plain" s__law_plain ["value"] := dn_mk X G a__law_plain l__law_plain c__law_plain k__law_plain fun _ _ _ _ _ _ us hl => match us, hl with | [_], _ => rfl
  have d__law_is_equal : Dn K mg "_law_is_equal" s__law_is_equal ["value", "due"] := dn_mk X G a__law_is_equal l__law_is_equal c__law_is_equal k__law_is_equal fun _ _ _ _ _ _ us hl => match us, hl with | [_, _], _ => rfl
  have d_add : Dn K mg "add" s_add ["v", "w"] := dn_mk X G a_add l_add c_add k_add fun _ _ _ _ _ _ us hl => match us, hl with | [_, _], _ => rfl
  have d_scaled : Dn K mg "scaled" s_scaled ["v", "c"] := dn_mk X G a_scaled l_scaled c_scaled k_scaled fun _ _ _ _ _ _ us hl => match us, hl with | [_, _], _ => rfl
  have d_product_of : Dn K mg "product_of" s_product_of ["f", "g"] := dn_mk X G a_product_of l_product_of c_product_of k_product_of fun _ _ _ _ _ _ us hl => match us, hl with | [_, _], _ => rfl
  have d_unit_series : Dn K mg "unit_series" s_unit_series ["size"] := dn_mk X G a_unit_series l_unit_series c_unit_series k_unit_series fun _ _ _ _ _ _ us hl => match us, hl with | [_], _ => rfl
  have d_power_of : Dn K mg "power_of" s_power_of ["f", "n"] := dn_mk X G a_power_of l_power_of c_power_of k_power_of fun _ _ _ _ _ _ us hl => match us, hl with | [_, _], _ => rfl
  have d__check_pair : Dn K mg "_check_pair" s__check_pair ["f", "g"] := dn_mk X G a__check_pair l__check_pair c__check_pair k__check_pair fun _ _ _ _ _ _ us hl => match us, hl with | [_, _], _ => rfl
  have d_plus : Dn K mg "plus" s_plus ["f", "g"] := dn_mk X G a_plus l_plus c_plus k_plus fun _ _ _ _ _ _ us hl => match us, hl with | [_, _], _ => rfl
  have d_times : Dn K mg "times" s_times ["f", "g"] := dn_mk X G a_times l_times c_times k_times fun _ _ _ _ _ _ us hl => match us, hl with | [_, _], _ => rfl
  have d_multiple : Dn K mg "multiple" s_multiple ["f", "c"] := dn_mk X G a_multiple l_multiple c_multiple k_multiple fun _ _ _ _ _ _ us hl => match us, hl with | [_, _], _ => rfl
  have d_power : Dn K mg "power" s_power ["f", "n"] := dn_mk X G a_power l_power c_power k_power fun _ _ _ _ _ _ us hl => match us, hl with | [_, _], _ => rfl
  have d_shifted : Dn K mg "shifted" s_shifted ["f", "n"] := dn_mk X G a_shifted l_shifted c_shifted k_shifted fun _ _ _ _ _ _ us hl => match us, hl with | [_, _], _ => rfl
  have d_check_length : Dn K mg "check_length" s_check_length ["size"] := dn_mk X G a_check_length l_check_length c_check_length k_check_length fun _ _ _ _ _ _ us hl => match us, hl with | [_], _ => rfl
  have d__law_joined : Dn K mg "_law_joined" s__law_joined ["f", "g"] := dn_mk X G a__law_joined l__law_joined c__law_joined k__law_joined fun _ _ _ _ _ _ us hl => match us, hl with | [_, _], _ => rfl
  have d__law_raised : Dn K mg "_law_raised" s__law_raised ["f", "n"] := dn_mk X G a__law_raised l__law_raised c__law_raised k__law_raised fun _ _ _ _ _ _ us hl => match us, hl with | [_, _], _ => rfl
  have d_euler_product : Dn K mg "euler_product" s_euler_product ["size", "n"] := dn_mk X G a_euler_product l_euler_product c_euler_product k_euler_product fun _ _ _ _ _ _ us hl => match us, hl with | [_, _], _ => rfl
  have d__law_euler : Dn K mg "_law_euler" s__law_euler ["size", "n"] := dn_mk X G a__law_euler l__law_euler c__law_euler k__law_euler fun _ _ _ _ _ _ us hl => match us, hl with | [_, _], _ => rfl
  have d__law_series : Dn K mg "_law_series" s__law_series ["state", "size"] := dn_mk X G a__law_series l__law_series c__law_series k__law_series fun _ _ _ _ _ _ us hl => match us, hl with | [_, _], _ => rfl
  have d__law_sparse : Dn K mg "_law_sparse" s__law_sparse ["size", "n"] := dn_mk X G a__law_sparse l__law_sparse c__law_sparse k__law_sparse fun _ _ _ _ _ _ us hl => match us, hl with | [_, _], _ => rfl
  have d__law_refused : Dn K mg "_law_refused" s__law_refused ["which", "f", "g"] := dn_mk X G a__law_refused l__law_refused c__law_refused k__law_refused fun _ _ _ _ _ _ us hl => match us, hl with | [_, _, _], _ => rfl
  have d__law_values_hold : Dn K mg "_law_values_hold" s__law_values_hold ["state", "f"] := dn_mk X G a__law_values_hold l__law_values_hold c__law_values_hold k__law_values_hold fun _ _ _ _ _ _ us hl => match us, hl with | [_, _], _ => rfl
  have d_law : Dn K mg "law" s_law ["script"] := dn_mk X G a_law l_law c_law k_law fun _ _ _ _ _ _ us hl => match us, hl with | [_], _ => rfl
  have hM : PySem.W.exmOne K (.ref CM) (.ref CM) = some true := exm_b bM iM tM mM
  refine ⟨PySem.W.fnOf "law" "law" (defArgs s_law) (defBody s_law) (defScope s_law) .none kV_law dc_law pm_law an_law cd_law ct_law, fun s v => .of_eq rfl, fun base _ _ => ?_⟩
  have e_E : ErrO K mg CM := ⟨⟨PySem.W.mg_of X G aM, xM, kM, bM, tM, hM⟩⟩
  have e_O := e_E
  have r_take := cal_take (P := l.prog) (w := w) (base := base) d__law_take B
  have r_state := cal_state (P := l.prog) (w := w) (base := base) d__law_state B
  have r_is_integer := cal_is_integer (P := l.prog) (w := w) (base := base) d_is_integer B
  have r_num := cal_num (P := l.prog) (w := w) (base := base) d__law_is_number B
  have r_row := cal_row (P := l.prog) (w := w) (base := base) d_is_row B r_is_integer
  have r_len := cal_len (P := l.prog) (w := w) (base := base) d__is_length B r_is_integer
  have r_isser := cal_isser (P := l.prog) (w := w) (base := base) d_is_series B r_row r_len
  have r_chks := cal_chks (P := l.prog) (w := w) (base := base) d_check_series B r_isser e_O
  have r_oddN := cal_oddN (P := l.prog) (w := w) (base := base) d__law_odd
  have r_odd0 := cal_odd0 (P := l.prog) (w := w) (base := base) d__law_odd B r_oddN
  have r_odd1 := cal_odd1 (P := l.prog) (w := w) (base := base) d__law_odd B r_odd0
  have r_pl1 := cal_pl1 (P := l.prog) (w := w) (base := base) d__law_plain B r_odd1
  have r_eqN := cal_eqN (P := l.prog) (w := w) (base := base) d__law_is_equal
  have r_eq0 := cal_eq0 (P := l.prog) (w := w) (base := base) d__law_is_equal B r_eqN r_num
  have r_eq1 := cal_eq1 (P := l.prog) (w := w) (base := base) d__law_is_equal B r_eq0 r_num
  have r_add := cal_add (P := l.prog) (w := w) (base := base) d_add B
  have r_sc := cal_sc (P := l.prog) (w := w) (base := base) d_scaled B
  have r_prod := cal_prod (P := l.prog) (w := w) (base := base) d_product_of B
  have r_unit := cal_unit (P := l.prog) (w := w) (base := base) d_unit_series B
  have r_pwo := cal_pwo (P := l.prog) (w := w) (base := base) d_power_of B r_unit r_prod
  have r_pair := cal_pair (P := l.prog) (w := w) (base := base) d__check_pair B r_chks e_O
  have r_plus := cal_plus (P := l.prog) (w := w) (base := base) d_plus B r_pair r_add e_O
  have r_times := cal_times (P := l.prog) (w := w) (base := base) d_times B r_pair r_prod e_O
  have r_mult := cal_mult (P := l.prog) (w := w) (base := base) d_multiple B r_chks r_sc e_O
  have r_power := cal_power (P := l.prog) (w := w) (base := base) d_power B r_chks r_pwo e_O
  have r_shift := cal_shift (P := l.prog) (w := w) (base := base) d_shifted B r_chks e_O
  have r_lenV := cal_lenV (P := l.prog) (w := w) (base := base) d__is_length B r_is_integer
  have r_chkl := cal_chkl (P := l.prog) (w := w) (base := base) d_check_length B r_lenV e_O
  have r_join := cal_join (P := l.prog) (w := w) (base := base) d__law_joined B
  have r_raise := cal_raise (P := l.prog) (w := w) (base := base) d__law_raised B r_join
  have r_ep := cal_ep (P := l.prog) (w := w) (base := base) d_euler_product B r_pwo
  have r_eul := cal_eul (P := l.prog) (w := w) (base := base) d__law_euler B
  have r_ser := cal_ser (P := l.prog) (w := w) (base := base) d__law_series B r_take
  have r_sparse := cal_sparse (P := l.prog) (w := w) (base := base) d__law_sparse B
  have r_ref := cal_ref (P := l.prog) (w := w) (base := base) d__law_refused B r_plus r_times r_mult r_power r_shift r_chkl r_pl1 e_O
  have r_oddZ := cal_oddZ (P := l.prog) (w := w) (base := base) d__law_odd B r_oddN
  have r_plN := cal_plN (P := l.prog) (w := w) (base := base) d__law_plain B r_oddZ
  have r_vals := cal_vals (P := l.prog) (w := w) (base := base) d__law_values_hold B r_take r_ref r_isser r_chkl r_plN
  exact ok_law (P := l.prog) (w := w) (base := base) (fun_mk (st := s_law) l_law c_law k_law) B r_state r_take r_ser r_plus r_times r_mult r_power r_shift r_isser r_pl1 r_eq1 r_join r_raise r_unit r_ep r_eul r_sparse r_vals
theorem walk {l : PySem.W.OpenLaw} {q : Program} {loose : List Str} {XP : (Str → Option Value) → Heap → Prop} {YP : World → Heap → Prop} {d : DefRec} {K : Params → PySem.W.Frag} (hn : l.most = some 63) (hdf : d.params.defaults = []) (hY : ∀ (w : World) (h : Heap), YP w h → (K w.params).In h)
    (F : ∀ (w : World) (mg : Str → Option Value) (fa : Addr) (h : Heap), (K w.params).In h → h.Ns mainGlobals mg → mg d.name = some (.ref fa) → ∃ fd : FuncData, (∀ (s : Shared) (u : Value), BindsTo s fd ⟨[u], []⟩ [("script", u)]) ∧ ∀ base : Heap, (K w.params).In base → base.Ns mainGlobals mg → FnOk l.prog w (K w.params) mg base CX0 9 fa fd ["script"] (spLaw (K w.params))) :
    PySem.W.WalkO q loose XP YP l.row.toRowW d [] (fun f vs => PySem.call f vs) :=
  L2.walk_of (n := 63) (k := 9) (x := "script") (CX := fun _ => CX0) (sp := fun w => spLaw (K w.params)) hn (by decide) hdf ⟨rfl, by decide, by decide⟩ hY F (fun _ _ a ns hl _ hS => ⟨a, ns, rfl, hS, hl, fun _ => rfl⟩) fun _ _ _ _ _ z => z

end L60
open PySem PySem.W PyProof.Rows
set_option maxRecDepth 100000 in
set_option maxHeartbeats 0 in
theorem PySem.Challenge.cw_classledger_k60_series_added_and_multipl_holds : PySem.Challenge.rw_classledger_k60_series_added_and_multipl.Holds := by
  w_on; o_law; k_head; (case hw => w_witness2)
  k_fill
  refine L60.walk (l := PySem.Challenge.rw_classledger_k60_series_added_and_multipl) rfl rfl (fun w h Y => PySem.W.kIn_of Y) ?F
  case F =>
    intro w mg fa h KX G hmg
    refine' L60.all_mk KX G hmg ?a__law_take ?l__law_take ?c__law_take ?k__law_take ?a__law_state ?l__law_state ?c__law_state ?k__law_state ?a_is_integer ?l_is_integer ?c_is_integer ?k_is_integer ?a__law_is_number ?l__law_is_number ?c__law_is_number ?k__law_is_number ?a_is_row ?l_is_row ?c_is_row ?k_is_row ?a__is_length ?l__is_length ?c__is_length ?k__is_length ?a_is_series ?l_is_series ?c_is_series ?k_is_series ?a_check_series ?l_check_series ?c_check_series ?k_check_series ?a__law_odd ?l__law_odd ?c__law_odd ?k__law_odd ?a__law_plain ?l__law_plain ?c__law_plain ?k__law_plain ?a__law_is_equal ?l__law_is_equal ?c__law_is_equal ?k__law_is_equal ?a_add ?l_add ?c_add ?k_add ?a_scaled ?l_scaled ?c_scaled ?k_scaled ?a_product_of ?l_product_of ?c_product_of ?k_product_of ?a_unit_series ?l_unit_series ?c_unit_series ?k_unit_series ?a_power_of ?l_power_of ?c_power_of ?k_power_of ?a__check_pair ?l__check_pair ?c__check_pair ?k__check_pair ?a_plus ?l_plus ?c_plus ?k_plus ?a_times ?l_times ?c_times ?k_times ?a_multiple ?l_multiple ?c_multiple ?k_multiple ?a_power ?l_power ?c_power ?k_power ?a_shifted ?l_shifted ?c_shifted ?k_shifted ?a_check_length ?l_check_length ?c_check_length ?k_check_length ?a__law_joined ?l__law_joined ?c__law_joined ?k__law_joined ?a__law_raised ?l__law_raised ?c__law_raised ?k__law_raised ?a_euler_product ?l_euler_product ?c_euler_product ?k_euler_product ?a__law_euler ?l__law_euler ?c__law_euler ?k__law_euler ?a__law_series ?l__law_series ?c__law_series ?k__law_series ?a__law_sparse ?l__law_sparse ?c__law_sparse ?k__law_sparse ?a__law_refused ?l__law_refused ?c__law_refused ?k__law_refused ?a__law_values_hold ?l__law_values_hold ?c__law_values_hold ?k__law_values_hold ?a_law ?l_law ?c_law ?k_law ?z_abs ?z_int ?z_bool ?z_tuple ?z_list ?z_max ?z_min ?z_range ?z_sorted ?z_isinstance ?z_len ?z_all ?z_zip ?z_enumerate ?z_set ?v_LONGEST ?aM ?xM ?kM ?bM ?tM ?iM ?mM
    (case a__law_take => k_is); (case l__law_take => k_is); (case c__law_take => k_is); (case k__law_take => k_is)
    (case a__law_state => k_is); (case l__law_state => k_is); (case c__law_state => k_is); (case k__law_state => k_is)
    (case a_is_integer => k_is); (case l_is_integer => k_is); (case c_is_integer => k_is); (case k_is_integer => k_is)
    (case a__law_is_number => k_is); (case l__law_is_number => k_is); (case c__law_is_number => k_is); (case k__law_is_number => k_is)
    (case a_is_row => k_is); (case l_is_row => k_is); (case c_is_row => k_is); (case k_is_row => k_is)
    (case a__is_length => k_is); (case l__is_length => k_is); (case c__is_length => k_is); (case k__is_length => k_is)
    (case a_is_series => k_is); (case l_is_series => k_is); (case c_is_series => k_is); (case k_is_series => k_is)
    (case a_check_series => k_is); (case l_check_series => k_is); (case c_check_series => k_is); (case k_check_series => k_is)
    (case a__law_odd => k_is); (case l__law_odd => k_is); (case c__law_odd => k_is); (case k__law_odd => k_is)
    (case a__law_plain => k_is); (case l__law_plain => k_is); (case c__law_plain => k_is); (case k__law_plain => k_is)
    (case a__law_is_equal => k_is); (case l__law_is_equal => k_is); (case c__law_is_equal => k_is); (case k__law_is_equal => k_is)
    (case a_add => k_is); (case l_add => k_is); (case c_add => k_is); (case k_add => k_is)
    (case a_scaled => k_is); (case l_scaled => k_is); (case c_scaled => k_is); (case k_scaled => k_is)
    (case a_product_of => k_is); (case l_product_of => k_is); (case c_product_of => k_is); (case k_product_of => k_is)
    (case a_unit_series => k_is); (case l_unit_series => k_is); (case c_unit_series => k_is); (case k_unit_series => k_is)
    (case a_power_of => k_is); (case l_power_of => k_is); (case c_power_of => k_is); (case k_power_of => k_is)
    (case a__check_pair => k_is); (case l__check_pair => k_is); (case c__check_pair => k_is); (case k__check_pair => k_is)
    (case a_plus => k_is); (case l_plus => k_is); (case c_plus => k_is); (case k_plus => k_is)
    (case a_times => k_is); (case l_times => k_is); (case c_times => k_is); (case k_times => k_is)
    (case a_multiple => k_is); (case l_multiple => k_is); (case c_multiple => k_is); (case k_multiple => k_is)
    (case a_power => k_is); (case l_power => k_is); (case c_power => k_is); (case k_power => k_is)
    (case a_shifted => k_is); (case l_shifted => k_is); (case c_shifted => k_is); (case k_shifted => k_is)
    (case a_check_length => k_is); (case l_check_length => k_is); (case c_check_length => k_is); (case k_check_length => k_is)
    (case a__law_joined => k_is); (case l__law_joined => k_is); (case c__law_joined => k_is); (case k__law_joined => k_is)
    (case a__law_raised => k_is); (case l__law_raised => k_is); (case c__law_raised => k_is); (case k__law_raised => k_is)
    (case a_euler_product => k_is); (case l_euler_product => k_is); (case c_euler_product => k_is); (case k_euler_product => k_is)
    (case a__law_euler => k_is); (case l__law_euler => k_is); (case c__law_euler => k_is); (case k__law_euler => k_is)
    (case a__law_series => k_is); (case l__law_series => k_is); (case c__law_series => k_is); (case k__law_series => k_is)
    (case a__law_sparse => k_is); (case l__law_sparse => k_is); (case c__law_sparse => k_is); (case k__law_sparse => k_is)
    (case a__law_refused => k_is); (case l__law_refused => k_is); (case c__law_refused => k_is); (case k__law_refused => k_is)
    (case a__law_values_hold => k_is); (case l__law_values_hold => k_is); (case c__law_values_hold => k_is); (case k__law_values_hold => k_is)
    (case a_law => k_is); (case l_law => k_is); (case c_law => k_is); (case k_law => k_is)
    (case z_abs => k_is); (case z_int => k_is); (case z_bool => k_is); (case z_tuple => k_is)
    (case z_list => k_is); (case z_max => k_is); (case z_min => k_is); (case z_range => k_is)
    (case z_sorted => k_is); (case z_isinstance => k_is); (case z_len => k_is); (case z_all => k_is)
    (case z_zip => k_is); (case z_enumerate => k_is); (case z_set => k_is); (case v_LONGEST => k_is)
    (case aM => k_is); (case xM => k_exc); (case kM => k_is); (case bM => k_is)
    (case tM => k_is); (case iM => k_is); (case mM => k_is)
